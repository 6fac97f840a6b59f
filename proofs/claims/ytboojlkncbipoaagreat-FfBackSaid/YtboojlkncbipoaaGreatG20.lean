/- Texts of one kind, one behind the other: RsB, Rk1, Ff2, Ff3, Fd1, Ff4, Ff5. -/
import Derived.BigQuiet
import Derived.BigRegion
import Derived.Deep.LoopGhost
import Derived.Deep.QuietTactic
import Derived.Test.YtboojlkncbipoaaGreatG12
import Derived.Test.YtboojlkncbipoaaGreatG14
import Derived.Test.YtboojlkncbipoaaGreatG15
import Derived.Test.YtboojlkncbipoaaGreatG19
/- Package raster: a pixel's step is refused; the image of a raster; a raster is freed. -/
namespace Go.Proofs.YtboojlkncbipoaaGreat.Ra
open Go.ChangeShapes Go.WideShapes Go.ChangeAt Go.RowKit
open Go.Proofs.YtboojlkncbipoaaGreat.Le Go.Proofs.YtboojlkncbipoaaGreat.Tk
set_option linter.unusedVariables false

theorem tnB {a b : World} {S : List Nat} (h : Bu.Tn a b S) : Tn a b S := ⟨h.os, h.tape, h.output, h.size, h.block⟩

set_option maxRecDepth 100000 in
set_option maxHeartbeats 2000000 in
theorem set_spent (r l c g a b x y p : Nat) (s : ByteArray) (q : St) (p0 p1 p2 p3 : Int) (w : World) (h : Ro r l c g a b s w) (hl : Led l q.ls w) (ok : q.Ok) (hq : (q.work 1).2 = false) (hx : x < a) (hy : y < b) (ha : a ≤ 16384) (hb : b ≤ 16384) (hp : y * a + x = p) :
    Calls Tryz.prog 116 #[.pointer (some ⟨r, 0, none⟩), .int .i64 x, .int .i64 y, .agg #[.int .u8 p0, .int .u8 p1, .int .u8 p2, .int .u8 p3]] w
      fun e w' => e = .returned (.bool false) ∧ (Ro r l c g a b s w' ∧ Led l (q.work 1).1.ls w') ∧ Tn w w' [l, g] := by
  have hlt := h.lt
  have hll := hl.lt
  have hrl := h.rl
  have glt := h.buf.glt
  have hcl := h.buf.bl
  have hgl := h.buf.gl
  have F := fun w h => find_yes r l c g a b x y p s w h hx hy ha hb hp
  have hsz : 4 * p + 4 ≤ s.size := by have := p_lt hx hy hp; have := h.sz; omega
  have W := fun w h => work_calls l q 1 w h ok
  simp only [hq] at W
  obtain ⟨y1, hy1⟩ : ∃ y, (q.work 1).1 = y := ⟨_, rfl⟩
  simp only [hy1] at W ⊢
  obtain ⟨i, hi⟩ : ∃ i, 4 * p = i := ⟨_, rfl⟩
  simp only [hi] at F hsz
  have F' := Lib.hid F
  have W' := Lib.hid W
  have H := Lib.hid h
  have L := Lib.hid hl
  clear F W h hl hq hy1 hi hp ok
  go_enter Tryz.func116, Tryz.ntmps116
  go_wp2_with fail
  refine (F'.out _ (H.out.grown (World.grownBy_alloc _ _ none) (by simp) (by simp) (by simp))).mono ?_
  rintro e w1 ⟨rfl, g1⟩
  have G1 := Lib.hid (gb_trans (World.grownBy_alloc _ _ none) g1)
  have H1 := Lib.hid (H.out.grown G1.out (by simp) (by simp) (by simp))
  have L1 := Lib.hid (L.out.grown G1.out (by simp))
  have c0 : w1.cell? ⟨r, 0, none⟩ = some (.pointer (some ⟨l, 0, none⟩)) := blk_cell H1.out.blk 0
  clear g1
  go_wp2_with fail
  refine (W'.out _ L1.out).mono ?_
  rintro e w2 ⟨rfl, L2, g2⟩
  have H2 := Lib.hid (H1.out.grown g2 (by simpa using hrl) (by simpa using hcl) (by simpa using hgl))
  have HL2 := Lib.hid L2
  have G2 := Lib.hid g2
  clear L2 g2
  go_wp2
  go_ret
  exact ⟨rfl, ⟨H2.out, HL2.out⟩, (Tn.gb G1.out (by simp) : Tn w w1 [l, g]).trans (Tn.gb G2.out (by simp))⟩

/-- The image of an open raster: its bytes are the raster's. -/
theorem image_yes (r l c g a b : Nat) (s : ByteArray) (w : World) (h : Ro r l c g a b s w) :
    Calls Tryz.prog 49 #[.pointer (some ⟨r, 0, none⟩)] w
      fun e w' => e = .returned (.tuple #[.agg #[.int .i64 a, .int .i64 b, .slice (some ⟨g, 0, none⟩) s.size s.size], .bool true]) ∧ w'.heap[g]? = some (.cells (Bu.bys s) 5 (0, 0)) ∧ Tn w w' [c] := by
  have K := Lib.hid (Bu.out_yes c l g s _ (h.buf.grown (World.grownBy_alloc w (.cells #[.int .i64 0, .int .i64 0, .slice none 0 0] 27) none) (by simp) (by simp)))
  have hbg := h.buf.bg
  have hrc := h.rc
  have H0 := h.grown (World.grownBy_alloc w (.cells #[.int .i64 0, .int .i64 0, .slice none 0 0] 27) none) (by simp) (by simp) (by simp)
  have c3 := blk_cell H0.blk 3
  have I0 : (w.alloc (.cells #[.int .i64 0, .int .i64 0, .slice none 0 0] 27)).heap[w.heap.size]? = some (.cells #[.int .i64 0, .int .i64 0, .slice none 0 0] 27 (0, 0)) := blk_at
  have g0 := World.grownBy_alloc w (.cells #[.int .i64 0, .int .i64 0, .slice none 0 0] 27) none
  have rlt := h.lt
  have clt := h.buf.lt
  have glt := h.buf.glt
  have HH0 := Lib.hid H0
  have HI0 := Lib.hid I0
  have HG0 := Lib.hid g0
  obtain ⟨n, hn⟩ : ∃ n, s.size = n := ⟨_, rfl⟩
  rw [hn] at K ⊢
  simp only [RC, List.getElem?_toArray, List.getElem?_cons_succ, List.getElem?_cons_zero] at c3
  clear h H0 I0 g0 hn
  go_enter Tryz.func49, Tryz.ntmps49
  go_wp2_with fail
  generalize w.alloc (.cells #[.int .i64 0, .int .i64 0, .slice none 0 0] 27) = w0 at K HH0 HI0 HG0 c3 ⊢
  refine K.out.mono ?_
  rintro e w1 ⟨rfl, sh, g1⟩
  have hkc : w.heap.size ≠ c := by omega
  have hkg : w.heap.size ≠ g := by omega
  have R1 := (g1.block r HH0.out.lt (by simpa using hrc)).trans HH0.out.blk
  have B1 := (g1.block g HH0.out.buf.glt (by simpa using hbg.symm)).trans HH0.out.buf.byt
  have I1 := (g1.block _ (blk_lt HI0.out) (by simpa using hkc)).trans HI0.out
  have d1 := blk_cell R1 1
  have d2 := blk_cell R1 2
  simp only [RC, List.getElem?_toArray, List.getElem?_cons_succ, List.getElem?_cons_zero] at d1 d2
  have i0 := blk_cell I1 0
  have i1 := blk_cell I1 1
  have i2 := blk_cell I1 2
  have f0 := blk_free I1 0
  have f1 := blk_free I1 1
  have f2 := blk_free I1 2
  simp only [List.getElem?_toArray, List.getElem?_cons_succ, List.getElem?_cons_zero] at i0 i1 i2
  have HB1 := Lib.hid B1
  have HI1 := Lib.hid I1
  have HT1 := Lib.hid (Tn.gb (gb_trans (gb_any HG0.out (some c)) g1) (S := [c]) (by simp))
  clear R1 B1 I1 sh g1 c3 HI0
  go_wp2_with fail
  go_region
  go_wp2
  refine bodyPost_ret (v := .tuple #[.agg #[.int .i64 a, .int .i64 b, .slice (some ⟨g, 0, none⟩) n n], .bool true]) (by simp only [results, Tryz.results49]; go_simp) rfl ⟨rfl, ?_, ?_⟩
  · exact (blk_other (blk_other (blk_other HB1.out hkg.symm) hkg.symm) hkg.symm)
  · exact (Tn.own1 (Tn.own1 (Tn.own1 HT1.out (Nat.le_refl _)) (Nat.le_refl _)) (Nat.le_refl _)).dr

theorem rfree_yes (r l c g a b : Nat) (s : ByteArray) (x : St) (w : World) (h : Ro r l c g a b s w) (hl : Led l x.ls w) (ok : x.Ok) :
    Calls Tryz.prog 56 #[.pointer (some ⟨r, 0, none⟩)] w
      fun e w' => e = .returned (.bool true) ∧ Led l (x.give s.size).1.ls w' ∧ Tn w w' [c, l] := by
  have K := Lib.hid (Bu.free_yes c l g s x w h.buf hl ok)
  have c3 := blk_cell h.blk 3
  simp only [RC, List.getElem?_toArray, List.getElem?_cons_succ, List.getElem?_cons_zero] at c3
  clear h hl ok
  go_enter Tryz.func56, Tryz.ntmps56
  go_wp2_with fail
  refine K.out.mono ?_
  rintro e w1 ⟨rfl, ⟨sh, L⟩, T0⟩
  have T := tnB T0
  have HL := Lib.hid L
  have HT := Lib.hid T
  clear L T T0 sh
  go_wp2
  go_ret
  exact ⟨rfl, HL.out, HT.out⟩

end Go.Proofs.YtboojlkncbipoaaGreat.Ra

/- A raster of which pixels are set one behind the other; what stands behind a decoder. -/
namespace Go.Proofs.YtboojlkncbipoaaGreat.Sh
open Go.ChangeShapes Go.WideShapes Go.ChangeAt Go.RowKit
open Go.Proofs.YtboojlkncbipoaaGreat.Le Go.Proofs.YtboojlkncbipoaaGreat.Tk Go.Proofs.YtboojlkncbipoaaGreat.Sr Go.Proofs.YtboojlkncbipoaaGreat.Ra
set_option linter.unusedVariables false

def colV (C : Nat → Nat → Int) (o : Nat) : Value := .agg #[.int .u8 (C o 0), .int .u8 (C o 1), .int .u8 (C o 2), .int .u8 (C o 3)]
/-- A colour's four bytes. -/
def fB (C : Nat → Nat → Int) (o : Nat) : ByteArray := Ra.four (UInt8.ofNat (C o 0).toNat) (UInt8.ofNat (C o 1).toNat) (UInt8.ofNat (C o 2).toNat) (UInt8.ofNat (C o 3).toNat)
/-- The bytes of N pixels, of which the first k are set. -/
def rk (C : Nat → Nat → Int) (N : Nat) : Nat → ByteArray
  | 0 => Bu.rep 0 (4 * N)
  | k + 1 => Bu.putS (rk C N k) (fB C k) (4 * k)
theorem nat_u8 {v : Int} (h : 0 ≤ v ∧ v ≤ 255) : ((UInt8.ofNat v.toNat).toNat : Int) = v := by
  rw [UInt8.toNat_ofNat']
  omega
theorem fB_size (C : Nat → Nat → Int) (o : Nat) : (fB C o).size = 4 := rfl
theorem rk_size (C : Nat → Nat → Int) (N : Nat) : ∀ k, k ≤ N → (rk C N k).size = 4 * N
  | 0, _ => by show (Bu.rep 0 (4 * N)).size = _; rw [Bu.rep_size]
  | k + 1, h => by
    have h1 := rk_size C N k (by omega)
    show (Bu.putS _ _ _).size = _
    rw [Bu.putS_size _ _ _ (by rw [fB_size, h1]; omega), h1]

/-- A pixel is set, its step let. -/
theorem set_at (r l cb g w h N k x y : Nat) (C : Nat → Nat → Int) (q : St) (u : World) (hC : ∀ j, 0 ≤ C k j ∧ C k j ≤ 255) (hx : x < w) (hy : y < h) (hw : w ≤ 16384) (hh : h ≤ 16384) (hk : y * w + x = k)
    (hro : Ro r l cb g w h (rk C N k) u) (hl : Led l q.ls u) (ok : q.Ok) (hr : q.r = 0) (hq : q.st + 1 ≤ q.s) :
    Calls Tryz.prog 116 #[.pointer (some ⟨r, 0, none⟩), .int .i64 x, .int .i64 y, colV C k] u
      fun e u' => e = .returned (.bool true) ∧ (Ro r l cb g w h (rk C N (k + 1)) u' ∧ Led l (stp q 1).ls u') ∧ Tn u u' [l, g] := by
  have K := set_px r l cb g w h x y k (rk C N k) q (UInt8.ofNat (C k 0).toNat) (UInt8.ofNat (C k 1).toNat) (UInt8.ofNat (C k 2).toNat) (UInt8.ofNat (C k 3).toNat) u hro hl ok (by rw [work_one hr hq]) hx hy hw hh hk
  rw [nat_u8 (hC 0), nat_u8 (hC 1), nat_u8 (hC 2), nat_u8 (hC 3), work_one hr hq] at K
  exact K.mono (fun e w' ⟨h1, h2, h3⟩ => ⟨h1, h2, tnB h3⟩)
/-- Its step is refused. -/
theorem set_no (r l cb g w h k x y : Nat) (C : Nat → Nat → Int) (R : ByteArray) (q : St) (u : World) (hx : x < w) (hy : y < h) (hw : w ≤ 16384) (hh : h ≤ 16384) (hk : y * w + x = k)
    (hro : Ro r l cb g w h R u) (hl : Led l q.ls u) (ok : q.Ok) (hr : q.r = 0) (hq : q.s < q.st + 1) :
    Calls Tryz.prog 116 #[.pointer (some ⟨r, 0, none⟩), .int .i64 x, .int .i64 y, colV C k] u
      fun e u' => e = .returned (.bool false) ∧ (Ro r l cb g w h R u' ∧ Led l (spent q).ls u') ∧ Tn u u' [l, g] := by
  have K := set_spent r l cb g w h x y k R q (C k 0) (C k 1) (C k 2) (C k 3) u hro hl ok (by rw [work_none ok hr hq]) hx hy hw hh hk
  rw [work_none ok hr hq] at K
  exact K

theorem width_calls (r l cb g a b : Nat) (R : ByteArray) (u : World) (h : Ro r l cb g a b R u) : Calls Tryz.prog 98 #[.pointer (some ⟨r, 0, none⟩)] u fun e w' => e = .returned (.int .i64 a) ∧ u = w' := by
  have c1 : u.cell? ⟨r, 1, none⟩ = some (.int .i64 a) := blk_cell h.blk 1
  clear h
  go_enter Tryz.func98, Tryz.ntmps98
  go_wp2
  go_ret
  exact ⟨rfl, rfl⟩
theorem height_calls (r l cb g a b : Nat) (R : ByteArray) (u : World) (h : Ro r l cb g a b R u) : Calls Tryz.prog 99 #[.pointer (some ⟨r, 0, none⟩)] u fun e w' => e = .returned (.int .i64 b) ∧ u = w' := by
  have c2 : u.cell? ⟨r, 2, none⟩ = some (.int .i64 b) := blk_cell h.blk 2
  clear h
  go_enter Tryz.func99, Tryz.ntmps99
  go_wp2
  go_ret
  exact ⟨rfl, rfl⟩

def flF (F k a : Int) : Value := .agg #[.int .i64 k, .int .i64 F, .int .i64 a]
def okT : Value := .agg #[.int .i64 0, .int .i64 0, .int .i64 0]
theorem ro_t {r l c g a b : Nat} {s : ByteArray} {w w' : World} {S : List Nat} (h : Ro r l c g a b s w) (t : Tn w w' S) (h1 : r ∉ S) (h2 : c ∉ S) (h3 : g ∉ S) : Ro r l c g a b s w' := h.turned ⟨t.os, t.tape, t.output, t.size, t.block⟩ h1 h2 h3
/-- The blocks of a filling. -/
structure FB (W : World) (c l r cb g : Nat) : Prop where
  pc : c < W.heap.size
  pl : l < W.heap.size
  pr : r < W.heap.size
  pb : cb < W.heap.size
  pg : g < W.heap.size
  ncl : c ≠ l
  ncr : c ≠ r
  ncb : c ≠ cb
  ncg : c ≠ g
  nlr : l ≠ r
  nlb : l ≠ cb
  nlg : l ≠ g
  nrb : r ≠ cb
  nrg : r ≠ g
  nbg : cb ≠ g
/-- Behind a filling of n pixels: as it would with steps enough, N of them at most; or where they ran out. -/
def FO (F : Int) (W : World) (c l r cb g gw gh : Nat) (C : Nat → Nat → Int) (s : ByteArray) (x : St) (f p N n : Nat) (e : Ending) (w' : World) : Prop :=
  ∃ (q : Nat) (y : St), Rd c l s q y w' ∧ Tn W w' [c, l, g] ∧ Lm x y ∧ y.by_ = x.by_ ∧ (∃ R, Ro r l cb g gw gh R w') ∧
    ((f = 0 ∧ e = .returned okT ∧ y.r = 0 ∧ Ro r l cb g gw gh (rk C n n) w') ∨
     (f ≠ 0 ∧ e = .returned (flF F f p) ∧ y.r = 0) ∨
     (x.s < x.st + (N : Int) ∧ (∃ j : Nat, j ≤ s.size ∧ e = .returned (flF F 4 j)) ∧ y.r ≠ 0))
/-- Behind Decode. -/
def DT (F : Int) (W : World) (s : ByteArray) (c l : Nat) (x : St) (f p w h N : Nat) (A : ByteArray) (e : Ending) (w' : World) : Prop :=
  ∃ (q : Nat) (y : St), Rd c l s q y w' ∧ Tn W w' [c, l] ∧ Lm x y ∧
    ((f = 0 ∧ (∃ r cb g, e = .returned (.tuple #[.pointer (some ⟨r, 0, none⟩), okT]) ∧ Ro r l cb g w h A w' ∧ W.heap.size ≤ r ∧ W.heap.size ≤ cb ∧ W.heap.size ≤ g) ∧ y.by_ = x.by_ + ((4 * (w * h) : Nat) : Int) ∧ y.r = 0 ∧ (w : Int) ≤ x.w ∧ (h : Int) ≤ x.h) ∨
     (f ≠ 0 ∧ e = .returned (.tuple #[.pointer none, flF F f p]) ∧ y.r = 0 ∧ y.by_ = x.by_) ∨
     ((x.w < w ∨ x.h < h ∨ x.b < x.by_ + ((4 * (w * h) : Nat) : Int) ∨ x.s < x.st + (N : Int)) ∧ (∃ j : Nat, j ≤ s.size ∧ e = .returned (.tuple #[.pointer none, flF F 4 j])) ∧ y.r ≠ 0 ∧ y.by_ = x.by_))
/-- What a decoder does with a text, by any ledger: the fault f at p (f 0: none), sides w and h, N steps at most, the raster's bytes A. -/
structure TV where
  f : Nat
  p : Nat
  w : Nat
  h : Nat
  N : Nat
  A : ByteArray

/-- Bytes are taken. -/
def tkn (x : St) (n : Nat) : St := { x with by_ := x.by_ + n, pk := up x.pk (x.by_ + n) }
theorem take_ok {x : St} (hr : x.r = 0) (n : Nat) (h : x.by_ + (n : Int) ≤ x.b) : x.take (n : Int) = (tkn x n, true) := by
  unfold St.take
  rw [if_neg (by simpa using hr), if_neg (by omega)]
  rfl
theorem take_nok {x : St} (hr : x.r = 0) (n : Nat) (h : x.b < x.by_ + (n : Int)) : (x.take (n : Int)).2 = false ∧ Lm x (x.take (n : Int)).1 ∧ (x.take (n : Int)).1.r ≠ 0 ∧ (x.take (n : Int)).1.by_ = x.by_ := by
  unfold St.take
  rw [if_neg (fun h => h hr), if_pos (by omega)]
  unfold St.refuse
  rw [if_pos hr]
  exact ⟨rfl, ⟨rfl, rfl, rfl, rfl⟩, by show (2 : Int) ≠ 0; decide, rfl⟩
theorem sides_okd {x : St} {a b : Int} (hr : x.r = 0) (a1 : 1 ≤ a) (a2 : a ≤ x.w) (b1 : 1 ≤ b) (b2 : b ≤ x.h) : x.sides a b = (x, true) := by
  unfold St.sides
  rw [if_neg (fun h => h hr), if_neg (by omega), if_neg (by omega)]
theorem sides_nok {x : St} {a b : Int} (hr : x.r = 0) (a1 : 1 ≤ a) (b1 : 1 ≤ b) (hn : x.w < a ∨ x.h < b) : (x.sides a b).2 = false ∧ Lm x (x.sides a b).1 ∧ (x.sides a b).1.r ≠ 0 ∧ (x.sides a b).1.by_ = x.by_ := by
  unfold St.sides
  rw [if_neg (fun h => h hr)]
  by_cases h1 : a < 1 ∨ x.w < a
  · rw [if_pos h1]
    unfold St.refuse
    rw [if_pos hr]
    exact ⟨rfl, ⟨rfl, rfl, rfl, rfl⟩, by show (1 : Int) ≠ 0; decide, rfl⟩
  · rw [if_neg h1, if_pos (by omega)]
    unfold St.refuse
    rw [if_pos hr]
    exact ⟨rfl, ⟨rfl, rfl, rfl, rfl⟩, by show (1 : Int) ≠ 0; decide, rfl⟩
theorem new_nod (l : Nat) (x : St) (a b : Nat) (w : World) (h : Led l x.ls w) (ok : x.Ok) (hr : x.r = 0) (a0 : 1 ≤ a) (a1 : a ≤ 16384) (b0 : 1 ≤ b) (b1 : b ≤ 16384) (hn : x.w < a ∨ x.h < b ∨ x.b < x.by_ + ((4 * (a * b) : Nat) : Int)) :
    Calls Tryz.prog 51 #[.pointer (some ⟨l, 0, none⟩), .int .i64 a, .int .i64 b] w
      fun e w' => e = .returned (.tuple #[.pointer none, .int .i64 4]) ∧ ∃ y, Led l y.ls w' ∧ y.Ok ∧ Lm x y ∧ y.r ≠ 0 ∧ y.by_ = x.by_ ∧ w.grownBy w' (some l) := by
  by_cases h1 : x.w < a ∨ x.h < b
  · obtain ⟨e1, e2, e3, e4⟩ := sides_nok (x := x) (a := a) (b := b) hr (by omega) (by omega) h1
    exact (Ra.new_sides l x a b w h a0 a1 b0 b1 e1).mono fun e w' ⟨he, hL, hg⟩ => ⟨he, _, hL, ok.sides _ _, e2, e3, e4, hg⟩
  · obtain ⟨e1, e2, e3, e4⟩ := take_nok hr (4 * (a * b)) (by omega)
    exact (Ra.new_spent l x a b w h ok a0 a1 b0 b1 (sides_okd hr (by omega) (by omega) (by omega) (by omega)) e1).mono fun e w' ⟨he, hL, hg⟩ => ⟨he, _, hL, ok.take _, e2, e3, e4, hg⟩
theorem ledger_rd (c l : Nat) (s : ByteArray) (p : Nat) (x : St) (w : World) (h : Rd c l s p x w) :
    Calls Tryz.prog 52 #[.pointer (some ⟨c, 0, none⟩)] w fun e w' => e = .returned (.pointer (some ⟨l, 0, none⟩)) ∧ w = w' := Sr.ledger_calls c l s p 0 s.size w h.so
theorem give_d {x x1 y z : St} {n : Nat} (L : Lm x x1) (hb : x1.by_ = x.by_ + ((n : Nat) : Int)) (h0 : 0 ≤ x.by_) (L2 : Lm x1 y) (hy : y.by_ = x1.by_) : Lm x (y.give ((n : Nat) : Int)).1 ∧ (y.give ((n : Nat) : Int)).1.by_ = x.by_ ∧ (y.give ((n : Nat) : Int)).1.r = y.r := by
  have h2 := L.trans L2
  unfold St.give
  rw [if_neg (by omega)]
  exact ⟨⟨h2.w, h2.h, h2.b, h2.s⟩, by show y.by_ - _ = x.by_; omega, rfl⟩


end Go.Proofs.YtboojlkncbipoaaGreat.Sh

/- Farbfeld: a raster is filled, by any ledger. -/
namespace Go.Proofs.YtboojlkncbipoaaGreat.Ff
open Go.ChangeShapes Go.WideShapes Go.ChangeAt Go.RowKit
open Go.Proofs.YtboojlkncbipoaaGreat.Le Go.Proofs.YtboojlkncbipoaaGreat.Tk Go.Proofs.YtboojlkncbipoaaGreat.Sr Go.Proofs.YtboojlkncbipoaaGreat.Sc Go.Proofs.YtboojlkncbipoaaGreat.Ra Go.Proofs.YtboojlkncbipoaaGreat.Sh
set_option linter.unusedVariables false

theorem fspent_calls (c l : Nat) (s : ByteArray) (p : Nat) (x : St) (W : World) (R : Rd c l s p x W) : Calls Tryz.prog 73 #[.pointer (some ⟨c, 0, none⟩)] W fun e w' => e = .returned (flF 6 4 p) ∧ W.grownBy w' none := by
  have KA := Lib.hid (at_rd c l s p x _ (R.grown (World.grownBy_alloc W (.cells #[.int .i64 0, .int .i64 0, .int .i64 0] 29) none)))
  have F0 := Fl.new W
  have q0 := F0.c0
  have q1 := F0.c1
  have q2 := F0.c2
  have qf0 := F0.free 0
  have qf1 := F0.free 1
  have qf2 := F0.free 2
  have HG := Lib.hid (World.grownBy_alloc W (.cells #[.int .i64 0, .int .i64 0, .int .i64 0] 29) none)
  clear R F0
  unfold flF
  go_enter Tryz.func73, Tryz.ntmps73
  go_wp2_with fail
  generalize W.alloc (.cells #[.int .i64 0, .int .i64 0, .int .i64 0] 29) = w0 at KA q0 q1 q2 qf0 qf1 qf2 HG ⊢
  refine KA.out.mono ?_
  rintro e w' ⟨rfl, rfl⟩
  go_wp2
  refine bodyPost_ret (v := .agg #[.int .i64 4, .int .i64 6, .int .i64 p]) (by simp only [results, Tryz.results73]; go_simp) rfl ⟨rfl, ?_⟩
  have t6 : Tn w0 (((w0.setCell ⟨W.heap.size, 0, none⟩ (.int .i64 4)).setCell ⟨W.heap.size, 1, none⟩ (.int .i64 6)).setCell ⟨W.heap.size, 2, none⟩ (.int .i64 p)) [W.heap.size] := (((Tn.refl w0 [W.heap.size]).st (by simp)).st (by simp)).st (by simp)
  exact Tn.own HG.out t6 (by intro i hi; simp at hi; left; omega)

/-- A pixel's channels. -/
def cF (s : ByteArray) (k j : Nat) : Int := nf s (16 + 8 * k + 2 * j)
theorem cF_bd (s : ByteArray) (k j : Nat) : 0 ≤ cF s k j ∧ cF s k j ≤ 255 := nf_bd s _
theorem nf_ext (s : ByteArray) (k j : Nat) (h : j ≤ 3) : nf (s.extract (16 + 8 * k) (16 + 8 * k + 8)) (2 * j) = cF s k j := by
  unfold nf cF nf n2
  rw [ByteArray.extract_extract]
  congr 4
  omega
/-- What a fill carries: i pixels are set. -/
structure FI (W : World) (c l r cb g sb gw gh : Nat) (s : ByteArray) (x : St) (n i : Nat) (w : World) : Prop where
  rd : Rd c l s (16 + 8 * i) (stp x (2 * i)) w
  ro : Ro r l cb g gw gh (rk (cF s) n i) w
  sq : Sq W.heap.size sb 65535 w
  fl : Fl W.heap.size 0 0 0 w
  tn : Tn W w [c, l, g]
set_option maxRecDepth 100000 in
set_option maxHeartbeats 4000000 in
theorem fill_calls (c l r cb g gw gh n K f p N : Nat) (s : ByteArray) (x : St) (W : World) (B : FB W c l r cb g) (hw : gw ≤ 16384) (hh : gh ≤ 16384) (hn : gw * gh = n) (hr : x.r = 0) (h16 : 16 ≤ s.size)
    (R : Rd c l s 16 x W) (O : Ro r l cb g gw gh (Bu.rep 0 (4 * n)) W)
    (hK : (K = n ∧ 16 + 8 * n ≤ s.size ∧ f = 0 ∧ N = 2 * n) ∨ (K < n ∧ 16 + 8 * K ≤ s.size ∧ s.size < 16 + 8 * K + 8 ∧ f = 1 ∧ p = s.size ∧ N = 2 * K + 1)) :
    Calls Tryz.prog 74 #[.pointer (some ⟨c, 0, none⟩), .pointer (some ⟨r, 0, none⟩)] W (FO 6 W c l r cb g gw gh (cF s) s x f p N n) := by
  obtain ⟨Q, hQ⟩ : ∃ Q, FO 6 W c l r cb g gw gh (cF s) s x f p N n = Q := ⟨_, rfl⟩
  rw [hQ]
  have HQ := Lib.hid hQ
  have HB := Lib.hid B
  have g0 := World.grownBy_alloc W (.cells #[.int .i64 0, .int .i64 0, .int .i64 0] 29) none
  have R0 := R.grown g0
  have O0 := O.grown g0 (by simp) (by simp) (by simp)
  have F0 := Fl.new W
  have KN := Lib.hid (sq_new 65535 W.heap.size (W.alloc (.cells #[.int .i64 0, .int .i64 0, .int .i64 0] 29)) g0.size (by decide) (by decide))
  have HG0 := Lib.hid g0
  have HR0 := Lib.hid R0
  have HO0 := Lib.hid O0
  have HF0 := Lib.hid F0
  have HK := Lib.hid hK
  have HX := Lib.hid (And.intro hr (And.intro hn h16))
  have z0 : (W.alloc (.cells #[.int .i64 0, .int .i64 0, .int .i64 0] 29)).heap.size = W.heap.size + 1 := size_alloc _ _
  have HZ0 := Lib.hid z0
  clear hQ g0 R0 O0 F0 B R O hK hr hn h16 z0
  go_enter Tryz.func74, Tryz.ntmps74
  go_wp2_with fail
  generalize W.alloc (.cells #[.int .i64 0, .int .i64 0, .int .i64 0] 29) = w0 at KN HG0 HR0 HO0 HF0 HZ0 ⊢
  refine KN.out.mono ?_
  rintro e w1 ⟨sb, rfl, S1, g1, hsb⟩
  have HSB := Lib.hid (show W.heap.size < sb by have := HZ0.out; omega)
  have I1 := Lib.hid (show FI W c l r cb g sb gw gh s x n 0 w1 from ⟨show Rd c l s 16 (stp x 0) w1 by rw [stp_0]; exact HR0.out.grown g1, HO0.out.grown g1 (by simp) (by simp) (by simp), S1, HF0.out.turned (Tn.gb g1 (S := []) (by simp)) (by simp), Tn.gb (gb_trans HG0.out g1) (by simp)⟩)
  have KH := Lib.hid (height_calls r l cb g gw gh _ w1 I1.out.ro)
  clear S1 g1 hsb KN HG0 HR0 HO0 HF0 HZ0
  go_wp2_with fail
  refine KH.out.mono ?_
  rintro e w' ⟨rfl, rfl⟩
  clear KH
  go_wp2_with fail
  go_loopg [17] gh (fun q yv wr => ∃ y : Nat, y ≤ gh ∧ q = gh - y ∧ yv = .int .i64 y ∧ FI W c l r cb g sb gw gh s x n (y * gw) wr)
  case atStart => exact ⟨0, Nat.zero_le _, rfl, rfl, by rw [Nat.zero_mul]; exact I1.out⟩
  case round =>
    obtain ⟨y, hyh, rfl, rfl, I⟩ := hrel
    have HI := Lib.hid I
    clear I I1
    by_cases hy : y < gh
    · have d0 : decide ((y : Int) < (gh : Int)) = true := decide_eq_true (by omega)
      have KW := Lib.hid (width_calls r l cb g gw gh _ wr HI.out.ro)
      go_wp2_with fail
      refine KW.out.mono ?_
      rintro e w' ⟨rfl, rfl⟩
      clear KW
      go_wp2_with fail
      go_loopg [22] gw (fun q xv wr2 => ∃ x' : Nat, x' ≤ gw ∧ q = gw - x' ∧ xv = .int .i64 x' ∧ FI W c l r cb g sb gw gh s x n (y * gw + x') wr2)
      case atStart => exact ⟨0, Nat.zero_le _, rfl, rfl, by rw [Nat.add_zero]; exact HI.out⟩
      case round =>
        clear HI
        obtain ⟨x', hxw, rfl, rfl, I⟩ := hrel
        have HI := Lib.hid I
        clear I
        by_cases hx : x' < gw
        · have d1 : decide ((x' : Int) < (gw : Int)) = true := decide_eq_true (by omega)
          obtain ⟨i, hi⟩ : ∃ i, y * gw + x' = i := ⟨_, rfl⟩
          rw [hi] at HI
          have hiN : i < n := by
            have h1 := Nat.mul_le_mul_right gw (show y + 1 ≤ gh by omega)
            rw [Nat.add_mul, Nat.one_mul] at h1
            have h2 := HX.out.2.1
            rw [Nat.mul_comm gw gh] at h2
            omega
          have HP := Lib.hid (And.intro hi hiN)
          have hrr : (stp x (2 * i)).r = 0 := HX.out.1
          by_cases hrd : 16 + 8 * i + 8 ≤ s.size ∧ (stp x (2 * i)).st + 1 ≤ (stp x (2 * i)).s
          · have KT := Lib.hid (take_y HI.out.rd hrr hrd.2 8 hrd.1)
            have hz : (s.extract (16 + 8 * i) (16 + 8 * i + 8)).size = 8 := by rw [ByteArray.size_extract]; omega
            have KC := fun u (hb : sb < u.heap.size) (S : Sq W.heap.size sb 65535 u) => color_calls W.heap.size sb (s.extract (16 + 8 * i) (16 + 8 * i + 8)) u hz hb S
            have e0 := nf_ext s i 0 (by decide)
            have e1 := nf_ext s i 1 (by decide)
            have e2 := nf_ext s i 2 (by decide)
            have e3 := nf_ext s i 3 (by decide)
            simp only [Nat.mul_zero, Nat.reduceMul] at e0 e1 e2 e3
            rw [e0, e1, e2, e3] at KC
            obtain ⟨zz, hzz⟩ : ∃ z, s.extract (16 + 8 * i) (16 + 8 * i + 8) = z := ⟨_, rfl⟩
            rw [hzz] at KT KC
            have KC := Lib.hid KC
            have HRD := Lib.hid hrd
            clear hzz hz e0 e1 e2 e3 hrd hi hiN
            go_wp2_with fail
            refine KT.out.mono ?_
            rintro e w2 ⟨rfl, R2, T2⟩
            have B := HB.out
            have s2 := HI.out.sq.turned T2 (by have h1 := HSB.out; have h2 := B.pc; have h3 := B.pl; simp; omega) (by intro k hk; simp at hk; have h2 := B.pc; have h3 := B.pl; omega)
            have o2 := ro_t HI.out.ro T2 (by have := B.ncr; have := B.nlr; simp; omega) (by have := B.ncb; have := B.nlb; simp; omega) (by have := B.ncg; have := B.nlg; simp; omega)
            have f2 := HI.out.fl.turned T2 (by have h2 := B.pc; have h3 := B.pl; simp; omega)
            have t2 := HI.out.tn.trans (T2.mono (by intro k hk; simp at hk ⊢; omega))
            have HS2 := Lib.hid s2
            have HO2 := Lib.hid o2
            have HF2 := Lib.hid f2
            have HT2 := Lib.hid t2
            have HR2 := Lib.hid R2
            have hk2 := Lib.hid (KC.out w2 s2.lt s2)
            clear B s2 o2 f2 t2 R2 T2 KT KC HI
            go_wp2_with fail
            refine hk2.out.mono ?_
            rintro e w3 ⟨rfl, S3, T3⟩
            have hsb := HSB.out
            have B := HB.out
            have b1 := B.pc
            have b2 := B.pl
            have b3 := B.pr
            have b4 := B.pb
            have b5 := B.pg
            have R3 := rd_own HR2.out T3 (by simp; omega) (by simp; omega)
            have o3 := ro_t HO2.out T3 (by simp; omega) (by simp; omega) (by simp; omega)
            have f3 := HF2.out.turned T3 (by simp; omega)
            have t3 := HT2.out.over T3 (by intro k hk; simp at hk; left; omega)
            have HS3 := Lib.hid S3
            have HF3 := Lib.hid f3
            have HT3 := Lib.hid t3
            have HR3 := Lib.hid R3
            have HO3 := Lib.hid o3
            clear S3 f3 t3 T3 R3 o3 hk2 HS2 HO2 HF2 HT2 HR2 hsb B b1 b2 b3 b4 b5
            have hr3 : (stp (stp x (2 * i)) 1).r = 0 := hrr
            by_cases hk : (stp (stp x (2 * i)) 1).st + 1 ≤ (stp (stp x (2 * i)) 1).s
            · have K := set_at r l cb g gw gh n i x' y (cF s) _ w3 (fun j => cF_bd s i j) hx hy hw hh HP.out.1 HO3.out HR3.out.led HR3.out.ok hr3 hk
              unfold colV at K
              have K := Lib.hid K
              go_wp2_with fail
              refine K.out.mono ?_
              rintro e w4 ⟨rfl, ⟨O4, L4⟩, T4⟩
              have B := HB.out
              have b1 := B.pc
              have b2 := B.pl
              have b3 := B.pg
              have b4 := B.ncl
              have b5 := B.ncg
              have hsb := HSB.out
              have R4 : Rd c l s (16 + 8 * (i + 1)) (stp x (2 * (i + 1))) w4 := by
                have ok := stp_ok HR3.out.ok hr3 hk
                have e : stp (stp (stp x (2 * i)) 1) 1 = stp x (2 * (i + 1)) := by rw [stp_stp, stp_stp]; congr 1
                rw [e] at L4 ok
                have e2 : 16 + 8 * i + 8 = 16 + 8 * (i + 1) := by omega
                have so := HR3.out.so.turned T4 (by simp; omega)
                rw [e2] at so
                exact ⟨so, L4, ok⟩
              have I4 := Lib.hid (show FI W c l r cb g sb gw gh s x n (i + 1) w4 from ⟨R4, O4, HS3.out.turned T4 (by simp; omega) (by intro k hk; simp at hk; omega), HF3.out.turned T4 (by simp; omega), HT3.out.trans (T4.mono (by intro k hk; simp at hk ⊢; omega))⟩)
              have HP2 := Lib.hid (show y * gw + (x' + 1) = i + 1 by have := HP.out.1; omega)
              clear O4 L4 T4 B b1 b2 b3 b4 b5 hsb R4 K hk
              go_wp2
              go_roundg (gw - (x' + 1))
              case measure => omega
              case rel => exact ⟨x' + 1, by omega, rfl, by go_num, by rw [HP2.out]; exact I4.out⟩
            · have hk' : (stp (stp x (2 * i)) 1).s < (stp (stp x (2 * i)) 1).st + 1 := by omega
              have K := set_no r l cb g gw gh i x' y (cF s) _ _ w3 hx hy hw hh HP.out.1 HO3.out HR3.out.led HR3.out.ok hr3 hk'
              unfold colV at K
              have K := Lib.hid K
              go_wp2_with fail
              refine K.out.mono ?_
              rintro e w4 ⟨rfl, ⟨O4, L4⟩, T4⟩
              have B := HB.out
              have b1 := B.pc
              have b2 := B.pl
              have b3 := B.pg
              have b4 := B.ncl
              have b5 := B.ncg
              have R4 : Rd c l s (16 + 8 * i + 8) (spent x) w4 := by
                have ok := spent_ok HR3.out.ok hr3 hk'
                rw [stp_spent, stp_spent] at L4 ok
                exact ⟨HR3.out.so.turned T4 (by simp; omega), L4, ok⟩
              have F4 := HF3.out.turned T4 (by simp; omega)
              have T5 := HT3.out.trans (T4.mono (by intro k hk; simp at hk ⊢; omega))
              have KS := Lib.hid (fspent_calls c l s (16 + 8 * i + 8) (spent x) w4 R4)
              have HR4 := Lib.hid R4
              have HO4 := Lib.hid O4
              have HF4 := Lib.hid F4
              have HT5 := Lib.hid T5
              have hNN : x.s < x.st + (N : Int) := by
                have e1 : (stp (stp x (2 * i)) 1).s = x.s := rfl
                have e2 : (stp (stp x (2 * i)) 1).st = x.st + ((2 * i : Nat) : Int) + ((1 : Nat) : Int) := rfl
                rw [e1, e2] at hk'
                have h3 := HP.out.2
                have h4 := HRD.out.1
                rcases HK.out with ⟨k1, k2, k3, k4⟩ | ⟨k1, k2, k3, k4, k5, k6⟩ <;> omega
              have HNN := Lib.hid hNN
              clear O4 L4 T4 B b1 b2 b3 b4 b5 R4 K hk hk' F4 T5 hNN
              go_wp2_with fail
              refine KS.out.mono ?_
              rintro e w5 ⟨rfl, g5⟩
              have F5 := HF4.out.turned (Tn.gb g5 (S := []) (by simp)) (by simp)
              have q0 := F5.c0
              have q1 := F5.c1
              have q2 := F5.c2
              have qf0 := F5.free 0
              have qf1 := F5.free 1
              have qf2 := F5.free 2
              have HG5 := Lib.hid g5
              unfold flF
              clear F5 g5
              go_wp2
              refine bodyPost_ret (v := flF 6 4 (16 + 8 * i + 8 : Nat)) (by simp only [results, Tryz.results74, flF]; go_simp) rfl ?_
              rw [← HQ.out]
              have t6 : Tn w5 (((w5.setCell ⟨W.heap.size, 0, none⟩ (.int .i64 4)).setCell ⟨W.heap.size, 1, none⟩ (.int .i64 6)).setCell ⟨W.heap.size, 2, none⟩ (.int .i64 (16 + 8 * i + 8 : Nat))) [W.heap.size] := (((Tn.refl w5 [W.heap.size]).st (by simp)).st (by simp)).st (by simp)
              have B := HB.out
              have b1 := B.pc
              have b2 := B.pl
              have b3 := B.pr
              have b4 := B.pb
              have b5 := B.pg
              have T7 := (HT5.out.trans (Tn.gb HG5.out (by simp))).over t6 (by intro i hi; simp at hi; left; omega)
              have O7 := ro_t (HO4.out.grown HG5.out (by simp) (by simp) (by simp)) t6 (by simp; omega) (by simp; omega) (by simp; omega)
              exact ⟨_, _, rd_own (HR4.out.grown HG5.out) t6 (by simp; omega) (by simp; omega), T7, lm_spent x, rfl, ⟨_, O7⟩, .inr (.inr ⟨HNN.out, ⟨16 + 8 * i + 8, HRD.out.1, rfl⟩, by show (3 : Int) ≠ 0; decide⟩)⟩
          · obtain ⟨y2, k2, j2, hno, KT, KF⟩ := take_n HI.out.rd hrr 8 (by omega)
            have KT := Lib.hid KT
            have KF := Lib.hid KF
            have HNO := Lib.hid hno
            have HRD := Lib.hid hrd
            clear hno hrd hi hiN
            go_wp2_with fail
            refine KT.out.mono ?_
            rintro e w2 ⟨rfl, R2, T2⟩
            have B := HB.out
            have o2 := ro_t HI.out.ro T2 (by have := B.ncr; have := B.nlr; simp; omega) (by have := B.ncb; have := B.nlb; simp; omega) (by have := B.ncg; have := B.nlg; simp; omega)
            have f2 := HI.out.fl.turned T2 (by have h2 := B.pc; have h3 := B.pl; simp; omega)
            have t2 := HI.out.tn.trans (T2.mono (by intro k hk; simp at hk ⊢; omega))
            have HO2 := Lib.hid o2
            have HF2 := Lib.hid f2
            have HT2 := Lib.hid t2
            have KF2 := Lib.hid (KF.out 6 w2 R2)
            clear B o2 f2 t2 R2 T2 KT KF
            go_wp2_with fail
            refine KF2.out.mono ?_
            rintro e w5 ⟨rfl, R5, g5⟩
            have F5 := HF2.out.turned (Tn.gb g5 (S := []) (by simp)) (by simp)
            have q0 := F5.c0
            have q1 := F5.c1
            have q2 := F5.c2
            have qf0 := F5.free 0
            have qf1 := F5.free 1
            have qf2 := F5.free 2
            have HG5 := Lib.hid g5
            have HR5 := Lib.hid R5
            clear F5 g5 R5
            go_wp2
            refine bodyPost_ret (v := flF 6 k2 j2) (by simp only [results, Tryz.results74, flF]; go_simp) rfl ?_
            rw [← HQ.out]
            have t6 : Tn w5 (((w5.setCell ⟨W.heap.size, 0, none⟩ (.int .i64 k2)).setCell ⟨W.heap.size, 1, none⟩ (.int .i64 6)).setCell ⟨W.heap.size, 2, none⟩ (.int .i64 j2)) [W.heap.size] := (((Tn.refl w5 [W.heap.size]).st (by simp)).st (by simp)).st (by simp)
            have B := HB.out
            have b1 := B.pc
            have b2 := B.pl
            have b3 := B.pr
            have b4 := B.pb
            have b5 := B.pg
            have T7 := (HT2.out.trans (Tn.gb HG5.out (by simp))).over t6 (by intro i hi; simp at hi; left; omega)
            have O7 := ro_t (HO2.out.grown HG5.out (by simp) (by simp) (by simp)) t6 (by simp; omega) (by simp; omega) (by simp; omega)
            have R7 := rd_own HR5.out t6 (by simp; omega) (by simp; omega)
            have e1 : (stp x (2 * i)).s = x.s := rfl
            have e2 : (stp x (2 * i)).st = x.st + ((2 * i : Nat) : Int) := rfl
            have h3 := HP.out.2
            have h16 := HX.out.2.2
            have hib : 16 + 8 * i ≤ s.size := by have := HI.out.rd.so.pt; exact this
            have hlm := nor_lm HNO.out (c := c) (l := l)
            rcases HNO.out with ⟨c1, c2, c3, c4, c5⟩ | ⟨c1, c3, c4, c5⟩
            · subst c3 c4 c5
              refine ⟨_, _, R7, T7, (lm_stp x _).trans hlm, rfl, ⟨_, O7⟩, .inr (.inl ?_)⟩
              rcases HK.out with ⟨k1, k2, k3, k4⟩ | ⟨k1, k2, k3, k4, k5, k6⟩
              · exfalso; omega
              · subst k4 k5
                exact ⟨by decide, rfl, HX.out.1⟩
            · subst c3 c4 c5
              refine ⟨_, _, R7, T7, (lm_stp x _).trans hlm, rfl, ⟨_, O7⟩, .inr (.inr ⟨?_, ⟨16 + 8 * i, hib, rfl⟩, by show (3 : Int) ≠ 0; decide⟩)⟩
              rw [e1, e2] at c1
              rcases HK.out with ⟨k1, k2, k3, k4⟩ | ⟨k1, k2, k3, k4, k5, k6⟩ <;> omega
        · have d1 : decide ((x' : Int) < (gw : Int)) = false := decide_eq_false (by omega)
          obtain rfl : x' = gw := by omega
          have HP2 := Lib.hid (show (y + 1) * x' = y * x' + x' from by rw [Nat.add_mul, Nat.one_mul])
          go_wp2
          go_roundg (gh - (y + 1))
          case measure => omega
          case rel => exact ⟨y + 1, by omega, rfl, by go_num, by rw [HP2.out]; exact HI.out⟩
    · have d0 : decide ((y : Int) < (gh : Int)) = false := decide_eq_false (by omega)
      obtain rfl : y = gh := by omega
      have F5 := HI.out.fl
      have q0 := F5.c0
      have q1 := F5.c1
      have q2 := F5.c2
      have qf0 := F5.free 0
      have qf1 := F5.free 1
      have qf2 := F5.free 2
      clear F5
      go_wp2
      refine bodyPost_ret (v := okT) (by simp only [results, Tryz.results74, okT]; go_simp) rfl ?_
      rw [← HQ.out]
      have t6 : Tn wr (((wr.setCell ⟨W.heap.size, 0, none⟩ (.int .i64 0)).setCell ⟨W.heap.size, 1, none⟩ (.int .i64 0)).setCell ⟨W.heap.size, 2, none⟩ (.int .i64 0)) [W.heap.size] := (((Tn.refl wr [W.heap.size]).st (by simp)).st (by simp)).st (by simp)
      have B := HB.out
      have b1 := B.pc
      have b2 := B.pl
      have b3 := B.pr
      have b4 := B.pb
      have b5 := B.pg
      have hyn : y * gw = n := by rw [Nat.mul_comm]; exact HX.out.2.1
      have I5 := HI.out
      rw [hyn] at I5
      have O7 := ro_t I5.ro t6 (by simp; omega) (by simp; omega) (by simp; omega)
      refine ⟨_, _, rd_own I5.rd t6 (by simp; omega) (by simp; omega), I5.tn.over t6 (by intro i hi; simp at hi; left; omega), lm_stp x _, rfl, ⟨_, O7⟩, .inl ⟨?_, rfl, HX.out.1, O7⟩⟩
      have hib : 16 + 8 * n ≤ s.size := by have := I5.rd.so.pt; exact this
      rcases HK.out with ⟨k1, k2, k3, k4⟩ | ⟨k1, k2, k3, k4, k5, k6⟩
      · exact k3
      · exfalso; omega

end Go.Proofs.YtboojlkncbipoaaGreat.Ff

/- Farbfeld: Sides, by any ledger. -/
namespace Go.Proofs.YtboojlkncbipoaaGreat.Ff
open Go.ChangeShapes Go.WideShapes Go.ChangeAt Go.RowKit
open Go.Proofs.YtboojlkncbipoaaGreat.Le Go.Proofs.YtboojlkncbipoaaGreat.Tk Go.Proofs.YtboojlkncbipoaaGreat.Sr Go.Proofs.YtboojlkncbipoaaGreat.Sc Go.Proofs.YtboojlkncbipoaaGreat.Ra Go.Proofs.YtboojlkncbipoaaGreat.Sh
set_option linter.unusedVariables false

def sgF : ByteArray := ⟨#[102, 97, 114, 98, 102, 101, 108, 100]⟩
theorem sgF_size : sgF.size = 8 := rfl

set_option maxRecDepth 100000 in
set_option maxHeartbeats 1000000 in
theorem fsides_bad (c l q : Nat) (s : ByteArray) (x y : St) (k j : Int) (W : World) (R : Rd c l s 0 x W)
    (KR : ∀ u, Rd c l s 0 x u → Calls Tryz.prog 94 #[.pointer (some ⟨c, 0, none⟩), .string sgF, .int .i64 16, .int .i64 6] u (HNo u c l s x 6 k j q y)) :
    Calls Tryz.prog 72 #[.pointer (some ⟨c, 0, none⟩)] W (fun e w' => e = .returned (.tuple #[.int .i64 0, .int .i64 0, flF 6 k j]) ∧ Rd c l s q y w' ∧ Tn W w' [c, l]) := by
  unfold sgF at KR
  have g0 := World.grownBy_alloc W (.cells #[.int .i64 0, .int .i64 0, .int .i64 0] 29) none
  have hc := R.clt
  have hl := R.llt
  have KR0 := Lib.hid (KR _ (R.grown g0))
  have HF0 := Lib.hid (Fl.new W)
  have HT0 := Lib.hid (show Tn W (W.alloc (.cells #[.int .i64 0, .int .i64 0, .int .i64 0] 29)) [c, l] from Tn.gb g0 (by simp))
  clear R KR g0
  go_enter Tryz.func72, Tryz.ntmps72
  go_wp2_with fail
  generalize W.alloc (.cells #[.int .i64 0, .int .i64 0, .int .i64 0] 29) = w0 at KR0 HF0 HT0 ⊢
  refine KR0.out.mono ?_
  rintro e w1 ⟨rfl, R1, T1⟩
  have F1 := HF0.out.turned T1 (by simp; omega)
  have HT1 := Lib.hid (HT0.out.trans T1)
  have HR1 := Lib.hid R1
  have q0 := F1.c0
  have q1 := F1.c1
  have q2 := F1.c2
  have qf0 := F1.free 0
  have qf1 := F1.free 1
  have qf2 := F1.free 2
  have HF1 := Lib.hid F1
  clear R1 T1 HF0 HT0 KR0 F1
  go_wp2_with fail
  have t1 : Tn w1 (((w1.setCell ⟨W.heap.size, 0, none⟩ (.int .i64 k)).setCell ⟨W.heap.size, 1, none⟩ (.int .i64 6)).setCell ⟨W.heap.size, 2, none⟩ (.int .i64 j)) [W.heap.size] := (((Tn.refl w1 [W.heap.size]).st (by simp)).st (by simp)).st (by simp)
  have HR2 := Lib.hid (rd_own HR1.out t1 (by simp; omega) (by simp; omega))
  have HT2 := Lib.hid (HT1.out.over t1 (by intro i hi; simp at hi; left; omega))
  have F2 := HF1.out.set k 6 j
  clear q0 q1 q2 qf0 qf1 qf2 t1 HF1 HT1 HR1
  generalize ((w1.setCell ⟨W.heap.size, 0, none⟩ (.int .i64 k)).setCell ⟨W.heap.size, 1, none⟩ (.int .i64 6)).setCell ⟨W.heap.size, 2, none⟩ (.int .i64 j) = w2 at HR2 HT2 F2 ⊢
  have q0 := F2.c0
  have q1 := F2.c1
  have q2 := F2.c2
  have qf0 := F2.free 0
  have qf1 := F2.free 1
  have qf2 := F2.free 2
  clear F2
  go_region
  go_wp2
  refine bodyPost_ret (v := .tuple #[.int .i64 0, .int .i64 0, flF 6 k j]) (by simp only [results, Tryz.results72, flF]; go_simp) rfl ?_
  have t3 : Tn w2 (((w2.setCell ⟨W.heap.size, 0, none⟩ (.int .i64 k)).setCell ⟨W.heap.size, 1, none⟩ (.int .i64 6)).setCell ⟨W.heap.size, 2, none⟩ (.int .i64 j)).drew [W.heap.size] := ((((Tn.refl w2 [W.heap.size]).st (by simp)).st (by simp)).st (by simp)).dr
  exact ⟨rfl, rd_own HR2.out t3 (by simp; omega) (by simp; omega), HT2.out.over t3 (by intro i hi; simp at hi; left; omega)⟩

set_option maxRecDepth 100000 in
set_option maxHeartbeats 1000000 in
theorem fsides_ok (c l q gw gh : Nat) (s z : ByteArray) (x y : St) (W : World) (R : Rd c l s 0 x W)
    (KR : ∀ u, Rd c l s 0 x u → Calls Tryz.prog 94 #[.pointer (some ⟨c, 0, none⟩), .string sgF, .int .i64 16, .int .i64 6] u (fun e w' => e = .returned (.tuple #[.int .i64 gw, .int .i64 gh, .string z, .agg #[.int .i64 0, .int .i64 0, .int .i64 0]]) ∧ Rd c l s q y w' ∧ Tn u w' [c, l])) :
    Calls Tryz.prog 72 #[.pointer (some ⟨c, 0, none⟩)] W (fun e w' => e = .returned (.tuple #[.int .i64 gw, .int .i64 gh, okT]) ∧ Rd c l s q y w' ∧ Tn W w' [c, l]) := by
  unfold sgF at KR
  have g0 := World.grownBy_alloc W (.cells #[.int .i64 0, .int .i64 0, .int .i64 0] 29) none
  have hc := R.clt
  have hl := R.llt
  have KR0 := Lib.hid (KR _ (R.grown g0))
  have HF0 := Lib.hid (Fl.new W)
  have HT0 := Lib.hid (show Tn W (W.alloc (.cells #[.int .i64 0, .int .i64 0, .int .i64 0] 29)) [c, l] from Tn.gb g0 (by simp))
  clear R KR g0
  go_enter Tryz.func72, Tryz.ntmps72
  go_wp2_with fail
  generalize W.alloc (.cells #[.int .i64 0, .int .i64 0, .int .i64 0] 29) = w0 at KR0 HF0 HT0 ⊢
  refine KR0.out.mono ?_
  rintro e w1 ⟨rfl, R1, T1⟩
  have F1 := HF0.out.turned T1 (by simp; omega)
  have HT1 := Lib.hid (HT0.out.trans T1)
  have HR1 := Lib.hid R1
  have q0 := F1.c0
  have q1 := F1.c1
  have q2 := F1.c2
  have qf0 := F1.free 0
  have qf1 := F1.free 1
  have qf2 := F1.free 2
  have HF1 := Lib.hid F1
  clear R1 T1 HF0 HT0 KR0 F1
  go_wp2_with fail
  have t1 : Tn w1 (((w1.setCell ⟨W.heap.size, 0, none⟩ (.int .i64 0)).setCell ⟨W.heap.size, 1, none⟩ (.int .i64 0)).setCell ⟨W.heap.size, 2, none⟩ (.int .i64 0)) [W.heap.size] := (((Tn.refl w1 [W.heap.size]).st (by simp)).st (by simp)).st (by simp)
  have HR2 := Lib.hid (rd_own HR1.out t1 (by simp; omega) (by simp; omega))
  have HT2 := Lib.hid (HT1.out.over t1 (by intro i hi; simp at hi; left; omega))
  have F2 := HF1.out.set 0 0 0
  clear q0 q1 q2 qf0 qf1 qf2 t1 HF1 HT1 HR1
  generalize ((w1.setCell ⟨W.heap.size, 0, none⟩ (.int .i64 0)).setCell ⟨W.heap.size, 1, none⟩ (.int .i64 0)).setCell ⟨W.heap.size, 2, none⟩ (.int .i64 0) = w2 at HR2 HT2 F2 ⊢
  have q0 := F2.c0
  have q1 := F2.c1
  have q2 := F2.c2
  have qf0 := F2.free 0
  have qf1 := F2.free 1
  have qf2 := F2.free 2
  clear F2
  go_region
  go_wp2
  refine bodyPost_ret (v := .tuple #[.int .i64 gw, .int .i64 gh, okT]) (by simp only [results, Tryz.results72, okT]; go_simp) rfl ?_
  have t3 : Tn w2 (((w2.setCell ⟨W.heap.size, 0, none⟩ (.int .i64 0)).setCell ⟨W.heap.size, 1, none⟩ (.int .i64 0)).setCell ⟨W.heap.size, 2, none⟩ (.int .i64 0)).drew [W.heap.size] := ((((Tn.refl w2 [W.heap.size]).st (by simp)).st (by simp)).st (by simp)).dr
  exact ⟨rfl, rd_own HR2.out t3 (by simp; omega) (by simp; omega), HT2.out.over t3 (by intro i hi; simp at hi; left; omega)⟩

end Go.Proofs.YtboojlkncbipoaaGreat.Ff

/- The document's check of a head with a sign, layer 27 (written by wip/gen/chk13.py). -/
namespace Go.Proofs.YtboojlkncbipoaaGreat.Ff
open Go.ChangeShapes Go.WideShapes Go.ChangeAt Go.RowKit
open Go.Proofs.YtboojlkncbipoaaGreat.Le Go.Proofs.YtboojlkncbipoaaGreat.Tk Go.Proofs.YtboojlkncbipoaaGreat.Sr Go.Proofs.YtboojlkncbipoaaGreat.Sh
set_option linter.unusedVariables false

/-- An image that is none: what is wrong. -/
def imB (k p : Int) : Array Value := #[.int .i64 0, .int .i64 0, .slice none 0 0, .int .i64 k, .int .i64 p]
theorem bad13_calls (k p : Int) (W : World) : Calls Tryz.prog 57 #[.int .i64 k, .int .i64 p] W fun e w' => e = .returned (.agg (imB k p)) ∧ W.grownBy w' none := by
  go_enter Tryz.func57, Tryz.ntmps57
  go_wp2
  refine bodyPost_ret (v := .agg (imB k p)) (by simp only [results, Tryz.results57, imB]; go_simp) rfl ⟨rfl, World.grownBy_alloc _ _ none⟩
theorem be_calls (s : ByteArray) (a : Nat) (w : World) : Calls Tryz.prog 46 #[.string (s.extract a (a + 4))] w fun e w' => e = .returned (.int .i64 (beV s a : Nat)) ∧ w = w' := rbe_calls _ w (ex_size s a)

set_option maxRecDepth 100000 in
set_option maxHeartbeats 4000000 in
theorem check_calls (s : ByteArray) (K w h kd pl : Nat) (M : MK sgF s K) (hn : 16 ≤ s.size) (hs : s.size ≤ 9223372036854775807) (ew : beV s 8 = w) (eh : beV s 12 = h) (hkd : kdS 8 K w h = kd) (hpl : plS 8 K w h = pl) (W : World) :
    Calls Tryz.prog 71 #[.string s] W fun e w' => e = .returned (.agg (imB kd pl)) ∧ W.grownBy w' none := by
  have KB := fun k p u => bad13_calls k p u
  unfold imB at KB
  have KB := Lib.hid KB
  have K1 : ∀ u, Calls Tryz.prog 46 #[.string (s.extract 8 12)] u fun e w' => e = .returned (.int .i64 (beV s 8 : Nat)) ∧ u = w' := fun u => be_calls s 8 u
  have K2 : ∀ u, Calls Tryz.prog 46 #[.string (s.extract 12 16)] u fun e w' => e = .returned (.int .i64 (beV s 12 : Nat)) ∧ u = w' := fun u => be_calls s 12 u
  rw [ew] at K1
  rw [eh] at K2
  have K1 := Lib.hid K1
  have K2 := Lib.hid K2
  obtain ⟨sg, hsg⟩ : ∃ sg, sgF = sg := ⟨_, rfl⟩
  rw [hsg] at M
  have HSG := Lib.hid (show (⟨#[102, 97, 114, 98, 102, 101, 108, 100]⟩ : ByteArray) = sg from hsg)
  have hsz : sg.size = 8 := by rw [← hsg]; rfl
  have HM := Lib.hid M
  have HKD := Lib.hid (And.intro hkd hpl)
  have HN := Lib.hid hn
  have hKm : K ≤ 8 := by have := M.le; omega
  have HKM := Lib.hid hKm
  have G0 := Lib.hid (World.grownBy_alloc W (.cells #[.int .i64 0, .int .i64 0, .slice none 0 0, .int .i64 0, .int .i64 0] 39) none)
  have I0 := Lib.hid (blk_at (w := W) (o := .cells #[.int .i64 0, .int .i64 0, .slice none 0 0, .int .i64 0, .int .i64 0] 39))
  have HSZ := Lib.hid hsz
  clear M hkd hpl hn hsg hKm hsz ew eh
  go_enter Tryz.func71, Tryz.ntmps71
  go_wp2_with fail
  generalize W.alloc (.cells #[.int .i64 0, .int .i64 0, .slice none 0 0, .int .i64 0, .int .i64 0] 39) = w0 at G0 I0 ⊢
  rw [HSG.out]
  go_loopg [4] 9 (fun q iv wr => ∃ k : Nat, k ≤ K ∧ q = 9 - k ∧ iv = .int .i64 k ∧ W.grownBy wr none ∧ wr.heap[W.heap.size]? = some (.cells #[.int .i64 0, .int .i64 0, .slice none 0 0, .int .i64 0, .int .i64 0] 39 (0, 0)))
  case atStart => exact ⟨0, by omega, rfl, rfl, G0.out, I0.out⟩
  case round =>
    obtain ⟨k, hk, rfl, rfl, G, I⟩ := hrel
    have HG := Lib.hid G
    have HI := Lib.hid I
    clear G I G0 I0
    by_cases hlt : k < 8
    · have hks : k < sg.size := by have := HSZ.out; omega
      have hkb : k < s.size := by have := HN.out; omega
      have hcb := Tk.bt_at s k hkb
      have hcs := Tk.bt_at sg k hks
      have d1 : decide ((k : Int) < 8) = true := decide_eq_true (by omega)
      by_cases hkK : k < K
      · have he := HM.out.yes k hkK
        rw [he] at hcb
        obtain ⟨c, hc⟩ : ∃ c, bt sg k = c := ⟨_, rfl⟩
        rw [hc] at hcb hcs
        clear hc he
        go_wp2_with fail
        go_quiet (fail)
        have HG1 := Lib.hid (gb_trans HG.out (gb_drewN wr nq none))
        have HI1 := Lib.hid (((gb_drewN wr nq none).block _ (blk_lt HI.out) (by simp)).trans HI.out)
        generalize wr.drewN nq = w1 at HG1 HI1 ⊢
        go_wp2
        go_roundg (9 - (k + 1))
        case measure => omega
        case rel => exact ⟨k + 1, by omega, rfl, by go_num, HG1.out, HI1.out⟩
      · obtain rfl : k = K := by omega
        have he := HM.out.no hks
        obtain ⟨c, hc⟩ : ∃ c, bt s k = c := ⟨_, rfl⟩
        obtain ⟨d, hd⟩ : ∃ c, bt sg k = c := ⟨_, rfl⟩
        rw [hc, hd] at he
        rw [hc] at hcb
        rw [hd] at hcs
        have d2 : ((c : Int) != (d : Int)) = true := by rw [bne_iff_ne]; omega
        have d2' : ¬ (c : Int) = (d : Int) := by omega
        have E1 := Lib.hid (show kd = 2 ∧ pl = k by rw [← HKD.out.1, ← HKD.out.2]; unfold kdS plS; rw [if_pos hlt, if_pos hlt]; exact ⟨rfl, rfl⟩)
        clear hc hd he hk
        go_wp2_with fail
        go_quiet (fail)
        have HG1 := Lib.hid (gb_trans HG.out (gb_drewN wr nq none))
        have HI1 := Lib.hid (((gb_drewN wr nq none).block _ (blk_lt HI.out) (by simp)).trans HI.out)
        clear HG HI
        generalize wr.drewN nq = w1 at HG1 HI1 ⊢
        have HG := HG1
        have HI := HI1
        clear HG1 HI1
        go_wp2_with fail
        refine (KB.out 2 (k : Int) _).mono ?_
        rintro e w2 ⟨rfl, G2⟩
        have I2 := (G2.block _ (blk_lt HI.out) (by simp)).trans HI.out
        have HG2 := Lib.hid (gb_trans HG.out G2)
        have q0 := blk_cell I2 0
        have q1 := blk_cell I2 1
        have q2 := blk_cell I2 2
        have q3 := blk_cell I2 3
        have q4 := blk_cell I2 4
        simp only [List.getElem?_toArray, List.getElem?_cons_succ, List.getElem?_cons_zero] at q0 q1 q2 q3 q4
        have f0 := blk_free I2 0
        have f1 := blk_free I2 1
        have f2 := blk_free I2 2
        have f3 := blk_free I2 3
        have f4 := blk_free I2 4
        clear I2 G2 HG HI
        go_wp2
        refine bodyPost_ret (v := .agg (imB 2 (k : Int))) (by simp only [results, Tryz.results71, imB]; go_simp) rfl ⟨?_, ?_⟩
        · rw [E1.out.1, E1.out.2]; rfl
        · exact Tn.own HG2.out (show Tn w2 (((((w2.setCell ⟨W.heap.size, 0, none⟩ (.int .i64 0)).setCell ⟨W.heap.size, 1, none⟩ (.int .i64 0)).setCell ⟨W.heap.size, 2, none⟩ (.slice none 0 0)).setCell ⟨W.heap.size, 3, none⟩ (.int .i64 2)).setCell ⟨W.heap.size, 4, none⟩ (.int .i64 (k : Int))) [W.heap.size] from (((((Tn.refl w2 _).st (by simp)).st (by simp)).st (by simp)).st (by simp)).st (by simp)) (by intro i hi; simp at hi; left; omega)
    · have d1 : decide ((k : Int) < 8) = false := decide_eq_false (by omega)
      have hK8 : K = 8 := by have := HKM.out; omega
      have E0 := Lib.hid (show kd = (if sdK w ≠ 0 then sdK w else sdK h) ∧ pl = (if sdK w ≠ 0 then 8 else if sdK h ≠ 0 then 12 else 0) by rw [← HKD.out.1, ← HKD.out.2]; unfold kdS plS; rw [if_neg (show ¬ K < 8 by omega), if_neg (show ¬ K < 8 by omega)]; exact ⟨rfl, rfl⟩)
      clear hK8 hk
      go_wp2_with fail
      go_loopg [5, 6] 3 (fun q av vv wr2 => ∃ j : Nat, j ≤ 2 ∧ q = 3 - j ∧ av = .int .i64 (8 + 4 * j : Nat) ∧ (1 ≤ j → sdK w = 0) ∧ (2 ≤ j → sdK h = 0) ∧ W.grownBy wr2 none ∧ wr2.heap[W.heap.size]? = some (.cells #[.int .i64 0, .int .i64 0, .slice none 0 0, .int .i64 0, .int .i64 0] 39 (0, 0)))
      case atStart => exact ⟨0, by omega, rfl, rfl, by omega, by omega, HG.out, HI.out⟩
      case round =>
        clear HG HI
        obtain ⟨j, hj, rfl, rfl, hw0, hh0, G, I⟩ := hrel
        have HG := Lib.hid G
        have HI := Lib.hid I
        have HW0 := Lib.hid hw0
        have HH0 := Lib.hid hh0
        have hsn := HN.out
        clear G I hw0 hh0
        obtain rfl | rfl | rfl : j = 0 ∨ j = 1 ∨ j = 2 := by omega
        · have hsl : ∀ w, (Instr.slice 9 (.string s) (some (.int .i64 8)) (some (.int .i64 12)) none).run Tryz.prog w = .ok (.string (s.extract 8 12)) w := fun w => Sr.cut_at s 8 4 (by omega) w
          clear hj
          rw [show ((8 + 4 * 0 : Nat) : Int) = 8 from rfl]
          go_wp2_with fail
          refine (K1.out _).mono ?_
          rintro e w' ⟨rfl, rfl⟩
          by_cases e0 : w = 0
          · have d3 : ((w : Int) == 0) = true := by rw [beq_iff_eq]; omega
            have d3' : (w : Int) = 0 := by omega
            have E1 := Lib.hid (show kd = 2 ∧ pl = 8 by rw [E0.out.1, E0.out.2]; unfold sdK; rw [if_pos e0]; exact ⟨rfl, rfl⟩)
            clear e0
            go_wp2_with fail
            refine (KB.out 2 8 _).mono ?_
            rintro e w2 ⟨rfl, G2⟩
            have I2 := (G2.block _ (blk_lt HI.out) (by simp)).trans HI.out
            have HG2 := Lib.hid (gb_trans HG.out G2)
            have q0 := blk_cell I2 0
            have q1 := blk_cell I2 1
            have q2 := blk_cell I2 2
            have q3 := blk_cell I2 3
            have q4 := blk_cell I2 4
            simp only [List.getElem?_toArray, List.getElem?_cons_succ, List.getElem?_cons_zero] at q0 q1 q2 q3 q4
            have f0 := blk_free I2 0
            have f1 := blk_free I2 1
            have f2 := blk_free I2 2
            have f3 := blk_free I2 3
            have f4 := blk_free I2 4
            clear I2 G2 HG HI
            go_wp2
            refine bodyPost_ret (v := .agg (imB 2 8)) (by simp only [results, Tryz.results71, imB]; go_simp) rfl ⟨?_, ?_⟩
            · rw [E1.out.1, E1.out.2]; rfl
            · exact Tn.own HG2.out (show Tn w2 (((((w2.setCell ⟨W.heap.size, 0, none⟩ (.int .i64 0)).setCell ⟨W.heap.size, 1, none⟩ (.int .i64 0)).setCell ⟨W.heap.size, 2, none⟩ (.slice none 0 0)).setCell ⟨W.heap.size, 3, none⟩ (.int .i64 2)).setCell ⟨W.heap.size, 4, none⟩ (.int .i64 8)) [W.heap.size] from (((((Tn.refl w2 _).st (by simp)).st (by simp)).st (by simp)).st (by simp)).st (by simp)) (by intro i hi; simp at hi; left; omega)
          · have d3 : ((w : Int) == 0) = false := by rw [beq_eq_false_iff_ne]; omega
            have d3' : ¬ (w : Int) = 0 := by omega
            by_cases e1 : 16384 < w
            · have d4 : decide ((16384 : Int) < (w : Int)) = true := decide_eq_true (by omega)
              have E1 := Lib.hid (show kd = 3 ∧ pl = 8 by rw [E0.out.1, E0.out.2]; unfold sdK; rw [if_neg e0, if_pos e1]; exact ⟨rfl, rfl⟩)
              clear e0
              go_wp2_with fail
              refine (KB.out 3 8 _).mono ?_
              rintro e w2 ⟨rfl, G2⟩
              have I2 := (G2.block _ (blk_lt HI.out) (by simp)).trans HI.out
              have HG2 := Lib.hid (gb_trans HG.out G2)
              have q0 := blk_cell I2 0
              have q1 := blk_cell I2 1
              have q2 := blk_cell I2 2
              have q3 := blk_cell I2 3
              have q4 := blk_cell I2 4
              simp only [List.getElem?_toArray, List.getElem?_cons_succ, List.getElem?_cons_zero] at q0 q1 q2 q3 q4
              have f0 := blk_free I2 0
              have f1 := blk_free I2 1
              have f2 := blk_free I2 2
              have f3 := blk_free I2 3
              have f4 := blk_free I2 4
              clear I2 G2 HG HI
              go_wp2
              refine bodyPost_ret (v := .agg (imB 3 8)) (by simp only [results, Tryz.results71, imB]; go_simp) rfl ⟨?_, ?_⟩
              · rw [E1.out.1, E1.out.2]; rfl
              · exact Tn.own HG2.out (show Tn w2 (((((w2.setCell ⟨W.heap.size, 0, none⟩ (.int .i64 0)).setCell ⟨W.heap.size, 1, none⟩ (.int .i64 0)).setCell ⟨W.heap.size, 2, none⟩ (.slice none 0 0)).setCell ⟨W.heap.size, 3, none⟩ (.int .i64 3)).setCell ⟨W.heap.size, 4, none⟩ (.int .i64 8)) [W.heap.size] from (((((Tn.refl w2 _).st (by simp)).st (by simp)).st (by simp)).st (by simp)).st (by simp)) (by intro i hi; simp at hi; left; omega)
            · have d4 : decide ((16384 : Int) < (w : Int)) = false := decide_eq_false (by omega)
              have HZ := Lib.hid (show sdK w = 0 by unfold sdK; rw [if_neg e0, if_neg e1])
              clear e0
              go_wp2
              go_roundg 2
              case measure => omega
              case rel => exact ⟨1, by omega, rfl, rfl, fun _ => HZ.out, fun h2 => absurd h2 (by decide), HG.out, HI.out⟩
        · have hsl : ∀ w, (Instr.slice 9 (.string s) (some (.int .i64 12)) (some (.int .i64 16)) none).run Tryz.prog w = .ok (.string (s.extract 12 16)) w := fun w => Sr.cut_at s 12 4 (by omega) w
          clear hj
          rw [show ((8 + 4 * 1 : Nat) : Int) = 12 from rfl]
          go_wp2_with fail
          refine (K2.out _).mono ?_
          rintro e w' ⟨rfl, rfl⟩
          by_cases e0 : h = 0
          · have d3 : ((h : Int) == 0) = true := by rw [beq_iff_eq]; omega
            have d3' : (h : Int) = 0 := by omega
            have E1 := Lib.hid (show kd = 2 ∧ pl = 12 by rw [E0.out.1, E0.out.2]; rw [if_neg (by rw [HW0.out (by decide)]; decide), if_neg (by rw [HW0.out (by decide)]; decide)]; unfold sdK; rw [if_pos e0]; exact ⟨rfl, rfl⟩)
            clear e0
            go_wp2_with fail
            refine (KB.out 2 12 _).mono ?_
            rintro e w2 ⟨rfl, G2⟩
            have I2 := (G2.block _ (blk_lt HI.out) (by simp)).trans HI.out
            have HG2 := Lib.hid (gb_trans HG.out G2)
            have q0 := blk_cell I2 0
            have q1 := blk_cell I2 1
            have q2 := blk_cell I2 2
            have q3 := blk_cell I2 3
            have q4 := blk_cell I2 4
            simp only [List.getElem?_toArray, List.getElem?_cons_succ, List.getElem?_cons_zero] at q0 q1 q2 q3 q4
            have f0 := blk_free I2 0
            have f1 := blk_free I2 1
            have f2 := blk_free I2 2
            have f3 := blk_free I2 3
            have f4 := blk_free I2 4
            clear I2 G2 HG HI
            go_wp2
            refine bodyPost_ret (v := .agg (imB 2 12)) (by simp only [results, Tryz.results71, imB]; go_simp) rfl ⟨?_, ?_⟩
            · rw [E1.out.1, E1.out.2]; rfl
            · exact Tn.own HG2.out (show Tn w2 (((((w2.setCell ⟨W.heap.size, 0, none⟩ (.int .i64 0)).setCell ⟨W.heap.size, 1, none⟩ (.int .i64 0)).setCell ⟨W.heap.size, 2, none⟩ (.slice none 0 0)).setCell ⟨W.heap.size, 3, none⟩ (.int .i64 2)).setCell ⟨W.heap.size, 4, none⟩ (.int .i64 12)) [W.heap.size] from (((((Tn.refl w2 _).st (by simp)).st (by simp)).st (by simp)).st (by simp)).st (by simp)) (by intro i hi; simp at hi; left; omega)
          · have d3 : ((h : Int) == 0) = false := by rw [beq_eq_false_iff_ne]; omega
            have d3' : ¬ (h : Int) = 0 := by omega
            by_cases e1 : 16384 < h
            · have d4 : decide ((16384 : Int) < (h : Int)) = true := decide_eq_true (by omega)
              have E1 := Lib.hid (show kd = 3 ∧ pl = 12 by rw [E0.out.1, E0.out.2]; rw [if_neg (by rw [HW0.out (by decide)]; decide), if_neg (by rw [HW0.out (by decide)]; decide)]; unfold sdK; rw [if_neg e0, if_pos e1]; exact ⟨rfl, rfl⟩)
              clear e0
              go_wp2_with fail
              refine (KB.out 3 12 _).mono ?_
              rintro e w2 ⟨rfl, G2⟩
              have I2 := (G2.block _ (blk_lt HI.out) (by simp)).trans HI.out
              have HG2 := Lib.hid (gb_trans HG.out G2)
              have q0 := blk_cell I2 0
              have q1 := blk_cell I2 1
              have q2 := blk_cell I2 2
              have q3 := blk_cell I2 3
              have q4 := blk_cell I2 4
              simp only [List.getElem?_toArray, List.getElem?_cons_succ, List.getElem?_cons_zero] at q0 q1 q2 q3 q4
              have f0 := blk_free I2 0
              have f1 := blk_free I2 1
              have f2 := blk_free I2 2
              have f3 := blk_free I2 3
              have f4 := blk_free I2 4
              clear I2 G2 HG HI
              go_wp2
              refine bodyPost_ret (v := .agg (imB 3 12)) (by simp only [results, Tryz.results71, imB]; go_simp) rfl ⟨?_, ?_⟩
              · rw [E1.out.1, E1.out.2]; rfl
              · exact Tn.own HG2.out (show Tn w2 (((((w2.setCell ⟨W.heap.size, 0, none⟩ (.int .i64 0)).setCell ⟨W.heap.size, 1, none⟩ (.int .i64 0)).setCell ⟨W.heap.size, 2, none⟩ (.slice none 0 0)).setCell ⟨W.heap.size, 3, none⟩ (.int .i64 3)).setCell ⟨W.heap.size, 4, none⟩ (.int .i64 12)) [W.heap.size] from (((((Tn.refl w2 _).st (by simp)).st (by simp)).st (by simp)).st (by simp)).st (by simp)) (by intro i hi; simp at hi; left; omega)
            · have d4 : decide ((16384 : Int) < (h : Int)) = false := decide_eq_false (by omega)
              have HZ := Lib.hid (show sdK h = 0 by unfold sdK; rw [if_neg e0, if_neg e1])
              clear e0
              go_wp2
              go_roundg 1
              case measure => omega
              case rel => exact ⟨2, by omega, rfl, rfl, fun _ => HW0.out (by decide), fun h2 => HZ.out, HG.out, HI.out⟩
        · have I2 := HI.out
          have E1 := Lib.hid (show kd = 0 ∧ pl = 0 by rw [E0.out.1, E0.out.2, HW0.out (by decide), HH0.out (by decide)]; exact ⟨rfl, rfl⟩)
          have q0 := blk_cell I2 0
          have q1 := blk_cell I2 1
          have q2 := blk_cell I2 2
          have q3 := blk_cell I2 3
          have q4 := blk_cell I2 4
          simp only [List.getElem?_toArray, List.getElem?_cons_succ, List.getElem?_cons_zero] at q0 q1 q2 q3 q4
          have f0 := blk_free I2 0
          have f1 := blk_free I2 1
          have f2 := blk_free I2 2
          have f3 := blk_free I2 3
          have f4 := blk_free I2 4
          clear I2 hj
          rw [show ((8 + 4 * 2 : Nat) : Int) = 16 from rfl]
          go_wp2
          refine bodyPost_ret (v := .agg (imB 0 0)) (by simp only [results, Tryz.results71, imB]; go_simp) rfl ⟨?_, ?_⟩
          · rw [E1.out.1, E1.out.2]; rfl
          · exact Tn.own HG.out (show Tn wr (((((wr.setCell ⟨W.heap.size, 0, none⟩ (.int .i64 0)).setCell ⟨W.heap.size, 1, none⟩ (.int .i64 0)).setCell ⟨W.heap.size, 2, none⟩ (.slice none 0 0)).setCell ⟨W.heap.size, 3, none⟩ (.int .i64 0)).setCell ⟨W.heap.size, 4, none⟩ (.int .i64 0)) [W.heap.size] from (((((Tn.refl wr _).st (by simp)).st (by simp)).st (by simp)).st (by simp)).st (by simp)) (by intro i hi; simp at hi; left; omega)

end Go.Proofs.YtboojlkncbipoaaGreat.Ff

/- Farbfeld: Decode, by any ledger (written by wip/gen/dec13.py). -/
namespace Go.Proofs.YtboojlkncbipoaaGreat.Ff
open Go.ChangeShapes Go.WideShapes Go.ChangeAt Go.RowKit
open Go.Proofs.YtboojlkncbipoaaGreat.Le Go.Proofs.YtboojlkncbipoaaGreat.Tk Go.Proofs.YtboojlkncbipoaaGreat.Sr Go.Proofs.YtboojlkncbipoaaGreat.Sc Go.Proofs.YtboojlkncbipoaaGreat.Ra Go.Proofs.YtboojlkncbipoaaGreat.Sh
set_option linter.unusedVariables false

set_option maxRecDepth 100000 in
set_option maxHeartbeats 2000000 in
theorem ddec_bad (c l q : Nat) (s : ByteArray) (x y : St) (k j : Int) (f p w h N : Nat) (A : ByteArray) (W : World) (R : Rd c l s 0 x W)
    (KS : ∀ u, Rd c l s 0 x u → Calls Tryz.prog 72 #[.pointer (some ⟨c, 0, none⟩)] u (fun e w' => e = .returned (.tuple #[.int .i64 0, .int .i64 0, flF 6 k j]) ∧ Rd c l s q y w' ∧ Tn u w' [c, l]))
    (hk : k ≠ 0) (lm : Lm x y) (hby : y.by_ = x.by_) (hc4 : (f ≠ 0 ∧ k = f ∧ j = p ∧ y.r = 0) ∨ (k = 4 ∧ 0 ≤ j ∧ j ≤ s.size ∧ y.r ≠ 0 ∧ x.s < x.st + (N : Int))) :
    Calls Tryz.prog 31 #[.pointer (some ⟨c, 0, none⟩)] W (DT 6 W s c l x f p w h N A) := by
  obtain ⟨Q, hQ⟩ : ∃ Q, DT 6 W s c l x f p w h N A = Q := ⟨_, rfl⟩
  rw [hQ]
  have HQ := Lib.hid hQ
  unfold flF at KS
  have g0 := World.grownBy_alloc W (.cells #[.int .i64 0, .int .i64 0, .int .i64 0] 29) none
  have hc := R.clt
  have hl := R.llt
  have KS0 := Lib.hid (KS _ (R.grown g0))
  have HF0 := Lib.hid (Fl.new W)
  have HT0 := Lib.hid (show Tn W (W.alloc (.cells #[.int .i64 0, .int .i64 0, .int .i64 0] 29)) [c, l] from Tn.gb g0 (by simp))
  have z0 : (W.alloc (.cells #[.int .i64 0, .int .i64 0, .int .i64 0] 29)).heap.size = W.heap.size + 1 := size_alloc _ _
  have HY := Lib.hid (And.intro lm (And.intro hby hc4))
  clear R KS g0 hQ lm hby hc4
  go_enter Tryz.func31, Tryz.ntmps31
  go_wp2_with fail
  generalize W.alloc (.cells #[.int .i64 0, .int .i64 0, .int .i64 0] 29) = w0 at KS0 HF0 HT0 z0 ⊢
  refine KS0.out.mono ?_
  rintro e w3 ⟨rfl, R3, T3⟩
  have G4 := World.grownBy_alloc w3 (.cells #[.int .i64 k, .int .i64 6, .int .i64 j] 29) none
  have F4 : Fl w3.heap.size k 6 j (w3.alloc (.cells #[.int .i64 k, .int .i64 6, .int .i64 j] 29)) := blk_at
  have T4 := (HT0.out.trans T3).trans (Tn.gb G4 (by simp))
  have R4 := R3.grown G4
  have L4 := (HF0.out.turned T3 (by simp; omega)).turned (Tn.gb G4 (S := [c, l]) (by simp)) (by simp; omega)
  have z3 := T3.size
  have p0 := F4.c0
  have p1 := F4.c1
  have p2 := F4.c2
  have q0 := L4.c0
  have q1 := L4.c1
  have q2 := L4.c2
  have qf0 := L4.free 0
  have qf1 := L4.free 1
  have qf2 := L4.free 2
  have m0 : ¬ w3.heap.size = W.heap.size := by omega
  have m1 : ¬ W.heap.size = w3.heap.size := by omega
  have hkn : k ≠ 0 := hk
  have HT4 := Lib.hid T4
  have HR4 := Lib.hid R4
  clear G4 F4 T4 R4 L4 T3 R3 z3 z0 HF0 HT0 KS0
  go_wp2_with fail
  generalize w3.alloc (.cells #[.int .i64 k, .int .i64 6, .int .i64 j] 29) = w4 at p0 p1 p2 q0 q1 q2 qf0 qf1 qf2 HT4 HR4 ⊢
  go_region
  go_wp2
  refine bodyPost_ret (v := .tuple #[.pointer none, flF 6 k j]) (by simp only [results, Tryz.results31, flF]; go_simp) rfl ?_
  rw [← HQ.out]
  have t5 : Tn w4 (((w4.setCell ⟨W.heap.size, 0, none⟩ (.int .i64 k)).setCell ⟨W.heap.size, 1, none⟩ (.int .i64 6)).setCell ⟨W.heap.size, 2, none⟩ (.int .i64 j)).drew [W.heap.size] := ((((Tn.refl w4 [W.heap.size]).st (by simp)).st (by simp)).st (by simp)).dr
  refine ⟨q, y, rd_own HR4.out t5 (by simp; omega) (by simp; omega), HT4.out.over t5 (by intro i hi; simp at hi; left; omega), HY.out.1, ?_⟩
  obtain ⟨f0, hk, hj, hy⟩ | ⟨hk, j0, j1, hy, hs⟩ := HY.out.2.2
  · exact .inr (.inl ⟨f0, by rw [hk, hj], hy, HY.out.2.1⟩)
  · exact .inr (.inr ⟨.inr (.inr (.inr hs)), ⟨j.toNat, by omega, by rw [hk, Int.toNat_of_nonneg j0]⟩, hy, HY.out.2.1⟩)

set_option maxRecDepth 100000 in
set_option maxHeartbeats 2000000 in
theorem ddec_good (c l : Nat) (s : ByteArray) (x : St) (gw gh n f p N : Nat) (C : Nat → Nat → Int) (W : World) (R : Rd c l s 0 x W) (hr : x.r = 0) (hN : gw * gh = n) (w1 : 1 ≤ gw) (w2 : gw ≤ 16384) (h1 : 1 ≤ gh) (h2 : gh ≤ 16384) (hsz : 16 ≤ s.size)
    (KS : ∀ u, Rd c l s 0 x u → Calls Tryz.prog 72 #[.pointer (some ⟨c, 0, none⟩)] u (fun e w' => e = .returned (.tuple #[.int .i64 gw, .int .i64 gh, okT]) ∧ Rd c l s 16 (stp x 1) w' ∧ Tn u w' [c, l]))
    (KF : ∀ u r cb g x1, FB u c l r cb g → Rd c l s 16 x1 u → x1.r = 0 → Ro r l cb g gw gh (Bu.rep 0 (4 * n)) u → Calls Tryz.prog 74 #[.pointer (some ⟨c, 0, none⟩), .pointer (some ⟨r, 0, none⟩)] u (FO 6 u c l r cb g gw gh C s x1 f p N n)) :
    Calls Tryz.prog 31 #[.pointer (some ⟨c, 0, none⟩)] W (DT 6 W s c l x f p gw gh (1 + N) (rk C n n)) := by
  obtain ⟨Q, hQ⟩ : ∃ Q, DT 6 W s c l x f p gw gh (1 + N) (rk C n n) = Q := ⟨_, rfl⟩
  rw [hQ]
  have HQ := Lib.hid hQ
  unfold okT at KS
  have g0 := World.grownBy_alloc W (.cells #[.int .i64 0, .int .i64 0, .int .i64 0] 29) none
  have hc := R.clt
  have hl := R.llt
  have KS0 := Lib.hid (KS _ (R.grown g0))
  have KF := Lib.hid KF
  have HF0 := Lib.hid (Fl.new W)
  have HT0 := Lib.hid (show Tn W (W.alloc (.cells #[.int .i64 0, .int .i64 0, .int .i64 0] 29)) [c, l] from Tn.gb g0 (by simp))
  have z0 : (W.alloc (.cells #[.int .i64 0, .int .i64 0, .int .i64 0] 29)).heap.size = W.heap.size + 1 := size_alloc _ _
  have HW := Lib.hid (And.intro hr (And.intro hN (And.intro hsz R.ok.y0)))
  have hxr : (stp x 1).r = 0 := hr
  have hcl : c ≠ l := R.so.bl
  clear R KS g0 hQ hr hsz
  go_enter Tryz.func31, Tryz.ntmps31
  go_wp2_with fail
  generalize W.alloc (.cells #[.int .i64 0, .int .i64 0, .int .i64 0] 29) = w0 at KS0 HF0 HT0 z0 ⊢
  refine KS0.out.mono ?_
  rintro e w3 ⟨rfl, R3, T3⟩
  have G4 := World.grownBy_alloc w3 (.cells #[.int .i64 0, .int .i64 0, .int .i64 0] 29) none
  have F4 : Fl w3.heap.size 0 0 0 (w3.alloc (.cells #[.int .i64 0, .int .i64 0, .int .i64 0] 29)) := blk_at
  have T4 := (HT0.out.trans T3).trans (Tn.gb G4 (by simp))
  have R4 := R3.grown G4
  have L4 := (HF0.out.turned T3 (by simp; omega)).turned (Tn.gb G4 (S := [c, l]) (by simp)) (by simp; omega)
  have z3 := T3.size
  have z4 : (w3.alloc (.cells #[.int .i64 0, .int .i64 0, .int .i64 0] 29)).heap.size = w3.heap.size + 1 := size_alloc _ _
  have hw3 : W.heap.size + 1 ≤ w3.heap.size := by omega
  have p0 := F4.c0
  have p1 := F4.c1
  have p2 := F4.c2
  have HT4 := Lib.hid T4
  have HR4 := Lib.hid R4
  have HL4 := Lib.hid L4
  have HF4 := Lib.hid F4
  clear G4 F4 T4 R4 L4 T3 R3 z3 z0 HF0 HT0 KS0
  go_wp2_with fail
  generalize w3.alloc (.cells #[.int .i64 0, .int .i64 0, .int .i64 0] 29) = w4 at p0 p1 p2 HT4 HR4 HL4 HF4 z4 ⊢
  obtain ⟨hd, hhd⟩ : ∃ q, w3.heap.size = q := ⟨_, rfl⟩
  rw [hhd] at p0 p1 p2 HF4 z4 hw3 ⊢
  clear hhd
  have KL := Lib.hid (ledger_rd c l s 16 (stp x 1) w4 HR4.out)
  refine KL.out.mono ?_
  rintro e w' ⟨rfl, rfl⟩
  clear KL
  by_cases hno : (stp x 1).w < gw ∨ (stp x 1).h < gh ∨ (stp x 1).b < (stp x 1).by_ + ((4 * (gw * gh) : Nat) : Int)
  · have KN := Lib.hid (new_nod l (stp x 1) gw gh w4 HR4.out.led HR4.out.ok hxr w1 w2 h1 h2 hno)
    have HNO := Lib.hid hno
    clear hno hxr
    go_wp2_with fail
    refine KN.out.mono ?_
    rintro e w5 ⟨rfl, y, L5, ok5, lim5, hy5, by5, g5⟩
    have t5 : Tn w4 w5 [c, l] := Tn.gb g5 (by simp)
    have R5 : Rd c l s 16 y w5 := ⟨HR4.out.so.turned (Tn.gb g5 (S := [l]) (by simp)) (by simpa using HR4.out.so.bl), L5, ok5⟩
    have L9 := HL4.out.turned t5 (by simp; omega)
    have HL5 := Lib.hid L9
    have HT5 := Lib.hid (HT4.out.trans t5)
    have HR5 := Lib.hid R5
    have HY := Lib.hid (And.intro hy5 (And.intro by5 lim5))
    clear p0 p1 p2 t5 L5 g5 R5 L9 hy5 by5 lim5 ok5 KN HF4 HL4 HT4 HR4
    go_wp2_with fail
    have KP := Lib.hid (fspent_calls c l s 16 y w5 HR5.out)
    refine KP.out.mono ?_
    rintro e w6 ⟨rfl, g6⟩
    have L9 := HL5.out.turned (Tn.gb g6 (S := []) (by simp)) (by simp)
    unfold flF
    have q0 := L9.c0
    have q1 := L9.c1
    have q2 := L9.c2
    have qf0 := L9.free 0
    have qf1 := L9.free 1
    have qf2 := L9.free 2
    have HR6 := Lib.hid (HR5.out.grown g6)
    have HT6 := Lib.hid (HT5.out.trans (Tn.gb g6 (by simp)))
    clear L9 g6 HR5 HT5 HL5
    go_wp2_with fail
    refine bodyPost_ret (v := .tuple #[.pointer none, flF 6 4 16]) (by simp only [results, Tryz.results31, flF]; go_simp) rfl ?_
    rw [← HQ.out]
    have t6 : Tn w6 (((w6.setCell ⟨W.heap.size, 0, none⟩ (.int .i64 4)).setCell ⟨W.heap.size, 1, none⟩ (.int .i64 6)).setCell ⟨W.heap.size, 2, none⟩ (.int .i64 16)) [W.heap.size] := (((Tn.refl w6 [W.heap.size]).st (by simp)).st (by simp)).st (by simp)
    refine ⟨16, y, rd_own HR6.out t6 (by simp; omega) (by simp; omega), HT6.out.over t6 (by intro i hi; simp at hi; left; omega), (lm_stp x 1).trans HY.out.2.2, .inr (.inr ⟨?_, ⟨16, HW.out.2.2.1, rfl⟩, HY.out.1, HY.out.2.1⟩)⟩
    rcases HNO.out with h1 | h1 | h1
    · exact .inl h1
    · exact .inr (.inl h1)
    · exact .inr (.inr (.inl h1))
  · have hsd : (stp x 1).sides gw gh = (stp x 1, true) := sides_okd hxr (by omega) (by omega) (by omega) (by omega)
    have hbb : (stp x 1).by_ + ((4 * (gw * gh) : Nat) : Int) ≤ (stp x 1).b := by omega
    have hlm : (gw : Int) ≤ x.w ∧ (gh : Int) ≤ x.h := by
      have e1 : (stp x 1).w = x.w := rfl
      have e2 : (stp x 1).h = x.h := rfl
      rw [e1, e2] at hno
      omega
    have htk := take_ok hxr (4 * (gw * gh)) hbb
    have hok := HR4.out.ok.take ((4 * (gw * gh) : Nat) : Int)
    rw [htk] at hok
    obtain ⟨x1, hx1⟩ : ∃ x1, tkn (stp x 1) (4 * (gw * gh)) = x1 := ⟨_, rfl⟩
    have KN := Ra.new_yes l (stp x 1) gw gh w4 HR4.out.led HR4.out.ok w1 w2 h1 h2 hsd (by rw [htk])
    rw [htk, hx1, HW.out.2.1] at KN
    rw [hx1] at hok
    have f1 : x1.r = 0 ∧ x1.s = x.s ∧ x1.st = x.st + ((1 : Nat) : Int) ∧ x1.by_ = x.by_ + ((4 * n : Nat) : Int) ∧ x1.b = x.b ∧ Lm x x1 := by
      rw [← hx1, ← HW.out.2.1]
      exact ⟨hxr, rfl, rfl, rfl, rfl, ⟨rfl, rfl, rfl, rfl⟩⟩
    have H1 := Lib.hid f1
    have HLM := Lib.hid hlm
    have HOK := Lib.hid hok
    have HKN := Lib.hid KN
    clear hsd hbb htk hok KN f1 hlm hno hxr hx1
    go_wp2_with fail
    refine HKN.out.mono ?_
    rintro e w5 ⟨r, cb, g, rfl, O5, L5, g5, hr5, hcb5, hg5⟩
    have t5l : Tn w4 w5 [l] := Tn.gb g5 (by simp)
    have R5 : Rd c l s 16 x1 w5 := ⟨HR4.out.so.turned t5l (by simpa using HR4.out.so.bl), L5, HOK.out⟩
    have L9 := HL4.out.turned t5l (by simp; omega)
    have F9 := HF4.out.turned t5l (by simp; omega)
    have T5 := HT4.out.trans (t5l.mono (by intro i hi; simp at hi ⊢; omega) : Tn w4 w5 [c, l])
    have rlt := O5.lt
    have clt := O5.buf.lt
    have glt := O5.buf.glt
    have hbg := O5.buf.bg
    have hrg := O5.rg
    have hrc := O5.rc
    have z5 := t5l.size
    have BB : FB w5 c l r cb g := ⟨by omega, by omega, rlt, clt, glt, hcl, by omega, by omega, by omega, by omega, by omega, by omega, hrc, hrg, hbg⟩
    have HK0 := Lib.hid (KF.out w5 r cb g x1 BB R5 H1.out.1 O5)
    clear p0 p1 p2
    have HT5 := Lib.hid T5
    have HL5 := Lib.hid L9
    have HF5 := Lib.hid F9
    have HS5 := Lib.hid (And.intro hr5 (And.intro hcb5 (And.intro hg5 (And.intro glt z5))))
    have p0 := F9.c0
    have p1 := F9.c1
    have p2 := F9.c2
    have pf0 := F9.free 0
    have pf1 := F9.free 1
    have pf2 := F9.free 2
    have hly := F9.lt
    clear R5 L9 F9 T5 rlt clt glt hbg hrg hrc z5 BB O5 L5 g5 hr5 hcb5 hg5 t5l HF4 HL4 HT4 HR4 HKN KF
    go_wp2_with fail
    refine HK0.out.mono ?_
    rintro e w6 h6
    obtain ⟨q, y, R6, T6, lm6, by6, ⟨RA, O6⟩, hh⟩ := h6
    have zz := HS5.out
    have L6 := HL5.out.turned T6 (by simp; omega)
    have F6 := HF5.out.turned T6 (by simp; omega)
    clear p0 p1 p2 pf0 pf1 pf2 hly
    have q0 := L6.c0
    have q1 := L6.c1
    have q2 := L6.c2
    have qf0 := L6.free 0
    have qf1 := L6.free 1
    have qf2 := L6.free 2
    have p0 := F6.c0
    have p1 := F6.c1
    have p2 := F6.c2
    have pf0 := F6.free 0
    have pf1 := F6.free 1
    have pf2 := F6.free 2
    have hly := F6.lt
    have hlx := L6.lt
    have m0 : ¬ hd = W.heap.size := by omega
    have m1 : ¬ W.heap.size = hd := by omega
    have HT6 := Lib.hid (HT5.out.over T6 (by intro i hi; simp at hi ⊢; omega))
    have HR6 := Lib.hid (And.intro R6 (And.intro lm6 by6))
    have HO6 := Lib.hid O6
    have HL6 := Lib.hid L6
    have HF6 := Lib.hid F6
    have z6 := T6.size
    clear R6 T6 lm6 by6 O6 L6 F6 HK0 HT5
    have hb : (f = 0 ∧ e = .returned okT ∧ y.r = 0 ∧ Ro r l cb g gw gh (rk C n n) w6) ∨ (∃ k j : Int, e = .returned (flF 6 k j) ∧ k ≠ 0 ∧ ((f ≠ 0 ∧ k = f ∧ j = p ∧ y.r = 0) ∨ (k = 4 ∧ 0 ≤ j ∧ j ≤ s.size ∧ y.r ≠ 0 ∧ x1.s < x1.st + (N : Int)))) := by
      rcases hh with h | ⟨h1, h2, h3⟩ | ⟨h1, ⟨j, h2, h3⟩, h4⟩
      · exact .inl h
      · exact .inr ⟨f, p, h2, by omega, .inl ⟨h1, rfl, rfl, h3⟩⟩
      · exact .inr ⟨4, j, h3, by decide, .inr ⟨rfl, by omega, by omega, h4, h1⟩⟩
    clear hh
    rcases hb with ⟨f0, rfl, yr, OF⟩ | ⟨k, j, rfl, hkn, hcs⟩
    · have HY := Lib.hid (And.intro f0 (And.intro yr OF))
      clear f0 yr OF
      unfold okT
      go_wp2_with fail
      refine bodyPost_ret (v := .tuple #[.pointer (some ⟨r, 0, none⟩), okT]) (by simp only [results, Tryz.results31, okT]; go_simp) rfl ?_
      rw [← HQ.out]
      have TB : Tn w6 ((((((w6.setCell ⟨hd, 0, none⟩ (.int .i64 0)).setCell ⟨hd, 1, none⟩ (.int .i64 0)).setCell ⟨hd, 2, none⟩ (.int .i64 0)).setCell ⟨W.heap.size, 0, none⟩ (.int .i64 0)).setCell ⟨W.heap.size, 1, none⟩ (.int .i64 0)).setCell ⟨W.heap.size, 2, none⟩ (.int .i64 0)) [hd, W.heap.size] := ((((((Tn.refl _ _).st (by simp)).st (by simp)).st (by simp)).st (by simp)).st (by simp)).st (by simp)
      refine ⟨q, y, rd_own HR6.out.1 TB (by simp; omega) (by simp; omega), HT6.out.over TB (by intro i hi; simp at hi; left; omega), H1.out.2.2.2.2.2.trans HR6.out.2.1, .inl ⟨HY.out.1, ⟨r, cb, g, rfl, ro_t HY.out.2.2 TB (by simp; omega) (by simp; omega) (by simp; omega), by omega, by omega, by omega⟩, ?_, HY.out.2.1, HLM.out.1, HLM.out.2⟩⟩
      rw [HR6.out.2.2, H1.out.2.2.2.1, HW.out.2.1]
    · have HC := Lib.hid hcs
      clear hcs
      unfold flF
      go_wp2_with fail
      have TT : Tn w6 (((w6.setCell ⟨hd, 0, none⟩ (.int .i64 k)).setCell ⟨hd, 1, none⟩ (.int .i64 6)).setCell ⟨hd, 2, none⟩ (.int .i64 j)) [hd] := (((Tn.refl _ _).st (by simp)).st (by simp)).st (by simp)
      have HR7 := Lib.hid (rd_own HR6.out.1 TT (by simp; omega) (by simp; omega))
      have HO7 := Lib.hid (ro_t HO6.out TT (by simp; omega) (by simp; omega) (by simp; omega))
      have HT7 := Lib.hid (HT6.out.over TT (by intro i hi; simp at hi; left; omega))
      have HL7 := Lib.hid (HL6.out.turned TT (by simp; omega))
      have HF7 := Lib.hid (HF6.out.set k 6 j)
      have z7 := TT.size
      clear TT p0 p1 p2 pf0 pf1 pf2 q0 q1 q2 qf0 qf1 qf2 HO6 HT6 HL6 HF6 hlx hly
      generalize (((w6.setCell ⟨hd, 0, none⟩ (.int .i64 k)).setCell ⟨hd, 1, none⟩ (.int .i64 6)).setCell ⟨hd, 2, none⟩ (.int .i64 j)) = w7 at HR7 HO7 HT7 HL7 HF7 z7 ⊢
      refine (rfree_yes r l cb g gw gh RA y w7 HO7.out HR7.out.led HR7.out.ok).mono ?_
      rintro e w8 ⟨rfl, L8, T8⟩
      have L9 := HL7.out.turned T8 (by simp; omega)
      have F9 := HF7.out.turned T8 (by simp; omega)
      have q0 := L9.c0
      have q1 := L9.c1
      have q2 := L9.c2
      have qf0 := L9.free 0
      have qf1 := L9.free 1
      have qf2 := L9.free 2
      have p0 := F9.c0
      have p1 := F9.c1
      have p2 := F9.c2
      have pf0 := F9.free 0
      have pf1 := F9.free 1
      have pf2 := F9.free 2
      have hlx := L9.lt
      have hly := F9.lt
      have hsz : RA.size = 4 * n := by rw [← HW.out.2.1]; exact HO7.out.sz
      rw [hsz] at L8
      have okg := HR7.out.ok.give ((4 * n : Nat) : Int)
      have HR8 := Lib.hid (show Rd c l s q (y.give ((4 * n : Nat) : Int)).1 w8 from ⟨HR7.out.so.turned T8 (by have := HR7.out.so.bl; simp; omega), L8, okg⟩)
      have HT8 := Lib.hid (HT7.out.over T8 (by intro i hi; simp at hi ⊢; omega))
      clear L9 F9 L8 T8 HR7 HO7 HT7 HL7 HF7 hsz okg
      go_wp2_with fail
      go_region
      go_wp2
      refine bodyPost_ret (v := .tuple #[.pointer none, flF 6 k j]) (by simp only [results, Tryz.results31, flF]; go_simp) rfl ?_
      rw [← HQ.out]
      have t9 : Tn w8 (((w8.setCell ⟨W.heap.size, 0, none⟩ (.int .i64 k)).setCell ⟨W.heap.size, 1, none⟩ (.int .i64 6)).setCell ⟨W.heap.size, 2, none⟩ (.int .i64 j)).drew [W.heap.size] := ((((Tn.refl w8 [W.heap.size]).st (by simp)).st (by simp)).st (by simp)).dr
      have e8 := give_d (z := y) (n := 4 * n) H1.out.2.2.2.2.2 H1.out.2.2.2.1 HW.out.2.2.2 HR6.out.2.1 HR6.out.2.2
      refine ⟨q, _, rd_own HR8.out t9 (by simp; omega) (by simp; omega), HT8.out.over t9 (by intro i hi; simp at hi; left; omega), e8.1, .inr ?_⟩
      rcases HC.out with ⟨c1, c2, c3, c4⟩ | ⟨c1, c2, c3, c4, c5⟩
      · exact .inl ⟨c1, by rw [c2, c3], by rw [e8.2.2]; exact c4, e8.2.1⟩
      · refine .inr ⟨?_, ⟨j.toNat, by omega, by rw [c1, Int.toNat_of_nonneg c2]⟩, by rw [e8.2.2]; exact c4, e8.2.1⟩
        have g1 := H1.out
        exact .inr (.inr (.inr (by omega)))

end Go.Proofs.YtboojlkncbipoaaGreat.Ff

/- Farbfeld: what Sides and Decode do with any text, by any ledger. -/
namespace Go.Proofs.YtboojlkncbipoaaGreat.Ff
open Go.ChangeShapes Go.WideShapes Go.ChangeAt Go.RowKit
open Go.Proofs.YtboojlkncbipoaaGreat.Le Go.Proofs.YtboojlkncbipoaaGreat.Tk Go.Proofs.YtboojlkncbipoaaGreat.Sr Go.Proofs.YtboojlkncbipoaaGreat.Sc Go.Proofs.YtboojlkncbipoaaGreat.Ra Go.Proofs.YtboojlkncbipoaaGreat.Sh
set_option linter.unusedVariables false

def TD (s : ByteArray) (v : TV) : Prop := ∀ (c l : Nat) (x : St) (W : World), Rd c l s 0 x W → x.r = 0 → Calls Tryz.prog 31 #[.pointer (some ⟨c, 0, none⟩)] W (DT 6 W s c l x v.f v.p v.w v.h v.N v.A)
/-- What Sides does, its step let. -/
def SD (s : ByteArray) (v : TV) : Prop := ∀ (c l : Nat) (x : St) (W : World), Rd c l s 0 x W → x.r = 0 → x.st + 1 ≤ x.s → Calls Tryz.prog 72 #[.pointer (some ⟨c, 0, none⟩)] W (fun e w' => e = .returned (.tuple #[.int .i64 v.w, .int .i64 v.h, if v.w = 0 then flF 6 v.f v.p else okT]) ∧ Tn W w' [c, l])
/-- A text's class. -/
inductive Cl (s : ByteArray) : TV → Prop
  | short (h : s.size < 16) : Cl s ⟨1, s.size, 0, 0, 1, ⟨#[]⟩⟩
  | bad (K : Nat) (h : 16 ≤ s.size) (M : MK sgF s K) (hk : kdS 8 K (beV s 8) (beV s 12) ≠ 0) : Cl s ⟨kdS 8 K (beV s 8) (beV s 12), plS 8 K (beV s 8) (beV s 12), 0, 0, 1, ⟨#[]⟩⟩
  | cut (k n w h : Nat) (h16 : 16 ≤ s.size) (M : MK sgF s 8) (ew : beV s 8 = w) (eh : beV s 12 = h) (hk : kdS 8 8 w h = 0) (hn : w * h = n) (hc : k < n) (h1 : 16 + 8 * k ≤ s.size) (h2 : s.size < 16 + 8 * k + 8) : Cl s ⟨1, s.size, w, h, 1 + (2 * k + 1), rk (cF s) n n⟩
  | good (n w h : Nat) (h16 : 16 ≤ s.size) (M : MK sgF s 8) (ew : beV s 8 = w) (eh : beV s 12 = h) (hk : kdS 8 8 w h = 0) (hn : w * h = n) (h1 : 16 + 8 * n ≤ s.size) : Cl s ⟨0, 0, w, h, 1 + 2 * n, rk (cF s) n n⟩
theorem kd0 {K w h : Nat} (hK : K ≤ 8) (e : kdS 8 K w h = 0) : K = 8 ∧ 1 ≤ w ∧ w ≤ 16384 ∧ 1 ≤ h ∧ h ≤ 16384 := by
  unfold kdS at e
  split at e
  · cases e
  · split at e
    · contradiction
    · next h1 h2 =>
      have := sdK_0 (Decidable.not_not.1 h2)
      have := sdK_0 e
      omega
theorem cl_ex (s : ByteArray) : ∃ v, Cl s v := by
  by_cases h16 : 16 ≤ s.size
  · obtain ⟨K, M⟩ := mk_ex sgF s
    by_cases hk : kdS 8 K (beV s 8) (beV s 12) = 0
    · obtain ⟨rfl, _⟩ := kd0 M.le hk
      by_cases h1 : 16 + 8 * (beV s 8 * beV s 12) ≤ s.size
      · exact ⟨_, .good _ _ _ h16 M rfl rfl hk rfl h1⟩
      · exact ⟨_, .cut ((s.size - 16) / 8) _ _ _ h16 M rfl rfl hk rfl (by omega) (by omega) (by omega)⟩
    · exact ⟨_, .bad K h16 M hk⟩
  · exact ⟨_, .short (by omega)⟩

section
variable {c l : Nat} {s : ByteArray} {x : St} {W : World}
theorem read_n (R : Rd c l s 0 x W) (hr : x.r = 0) (hn : s.size < 16 ∨ x.s < x.st + 1) (f p w h N : Nat) (A : ByteArray) (hN : 1 ≤ N) (hf : s.size < 16 → f = 1 ∧ p = s.size) :
    Calls Tryz.prog 31 #[.pointer (some ⟨c, 0, none⟩)] W (DT 6 W s c l x f p w h N A) := by
  by_cases hst : x.st + 1 ≤ x.s
  · have h16 : s.size < 16 := by omega
    obtain ⟨rfl, rfl⟩ := hf h16
    refine ddec_bad c l 0 s x (stp x 1) 1 s.size 1 s.size w h N A W R (fun u Ru => fsides_bad c l 0 s x (stp x 1) 1 s.size u Ru (fun v Rv => ?_)) (by decide) (lm_stp x 1) rfl (.inl ⟨by decide, rfl, rfl, hr⟩)
    obtain ⟨y, k, j, hno, K⟩ := read_no c l s sgF 16 6 x v Rv hr (.inl (by omega))
    rcases hno with ⟨_, _, rfl, rfl, rfl⟩ | ⟨h1, _⟩
    · exact K
    · omega
  · refine ddec_bad c l 0 s x (spent x) 4 ((0 : Nat) : Int) f p w h N A W R (fun u Ru => fsides_bad c l 0 s x (spent x) 4 ((0 : Nat) : Int) u Ru (fun v Rv => ?_)) (by decide) (lm_spent x) rfl (.inr ⟨rfl, by omega, by omega, by show (3 : Int) ≠ 0; decide, by omega⟩)
    obtain ⟨y, k, j, hno, K⟩ := read_no c l s sgF 16 6 x v Rv hr (.inr (by omega))
    rcases hno with ⟨_, h1, _⟩ | ⟨_, rfl, rfl, rfl⟩
    · omega
    · exact K
theorem sides_g (R : Rd c l s 0 x W) (hr : x.r = 0) (hst : x.st + 1 ≤ x.s) (h16 : 16 ≤ s.size) (M : MK sgF s 8) {w h : Nat} (ew : beV s 8 = w) (eh : beV s 12 = h) (hk : kdS 8 8 w h = 0) :
    Calls Tryz.prog 72 #[.pointer (some ⟨c, 0, none⟩)] W (fun e w' => e = .returned (.tuple #[.int .i64 w, .int .i64 h, okT]) ∧ Rd c l s 16 (stp x 1) w' ∧ Tn W w' [c, l]) :=
  fsides_ok c l 16 w h s _ x (stp x 1) W R (fun v Rv => read_ok c l s sgF 16 8 w h 6 x v Rv hr hst h16 (by decide) (by decide) M ew eh hk)
end

theorem td_of {s : ByteArray} {v : TV} (C : Cl s v) : TD s v := fun c l x W R hr => by
  by_cases hst : x.st + 1 ≤ x.s
  · cases C with
    | short h => exact read_n R hr (.inl h) _ _ _ _ _ _ (Nat.le_refl _) (fun _ => ⟨rfl, rfl⟩)
    | bad K h16 M hk =>
      have hk2 : ((kdS 8 K (beV s 8) (beV s 12) : Nat) : Int) ≠ 0 := by omega
      exact ddec_bad c l 16 s x (stp x 1) _ _ _ _ 0 0 1 _ W R (fun u Ru => fsides_bad c l 16 s x (stp x 1) _ _ u Ru (fun v Rv => read_bad c l s sgF 16 K _ _ 6 x v Rv hr hst h16 (by decide) (by decide) M rfl rfl hk)) hk2 (lm_stp x 1) rfl (.inl ⟨hk, rfl, rfl, hr⟩)
    | cut k n w h h16 M ew eh hk hn hc h1 h2 =>
      obtain ⟨_, w1, w2, g1, g2⟩ := kd0 (Nat.le_refl _) hk
      exact ddec_good c l s x w h n 1 s.size (2 * k + 1) (cF s) W R hr hn w1 w2 g1 g2 h16 (fun u Ru => sides_g Ru hr hst h16 M ew eh hk) (fun u r cb g x1 B R1 hr1 O => fill_calls c l r cb g w h n k 1 s.size (2 * k + 1) s x1 u B w2 g2 hn hr1 h16 R1 O (.inr ⟨hc, h1, h2, rfl, rfl, rfl⟩))
    | good n w h h16 M ew eh hk hn h1 =>
      obtain ⟨_, w1, w2, g1, g2⟩ := kd0 (Nat.le_refl _) hk
      exact ddec_good c l s x w h n 0 0 (2 * n) (cF s) W R hr hn w1 w2 g1 g2 h16 (fun u Ru => sides_g Ru hr hst h16 M ew eh hk) (fun u r cb g x1 B R1 hr1 O => fill_calls c l r cb g w h n n 0 0 (2 * n) s x1 u B w2 g2 hn hr1 h16 R1 O (.inl ⟨rfl, h1, rfl, rfl⟩))
  · have hN : 1 ≤ v.N := by cases C <;> simp only <;> omega
    refine read_n R hr (.inr (by omega)) _ _ _ _ _ _ hN (fun h => ?_)
    cases C with
    | short h => exact ⟨rfl, rfl⟩
    | bad K h16 M hk => omega
    | cut k n w h h16 M ew eh hk hn hc h1 h2 => omega
    | good n w h h16 M ew eh hk hn h1 => omega

theorem sd_of {s : ByteArray} {v : TV} (C : Cl s v) : SD s v := fun c l x W R hr hst => by
  cases C with
  | short h =>
    rw [if_pos rfl]
    refine (fsides_bad c l 0 s x (stp x 1) 1 s.size W R (fun v Rv => ?_)).mono (fun e w' h => ⟨h.1, h.2.2⟩)
    obtain ⟨y, k, j, hno, K⟩ := read_no c l s sgF 16 6 x v Rv hr (.inl (by omega))
    rcases hno with ⟨_, _, rfl, rfl, rfl⟩ | ⟨h1, _⟩
    · exact K
    · omega
  | bad K h16 M hk =>
    rw [if_pos rfl]
    exact (fsides_bad c l 16 s x (stp x 1) _ _ W R (fun v Rv => read_bad c l s sgF 16 K _ _ 6 x v Rv hr hst h16 (by decide) (by decide) M rfl rfl hk)).mono (fun e w' h => ⟨h.1, h.2.2⟩)
  | cut k n w h h16 M ew eh hk hn hc h1 h2 =>
    obtain ⟨_, w1, w2, g1, g2⟩ := kd0 (Nat.le_refl _) hk
    rw [if_neg (show ¬ w = 0 by omega)]
    exact (sides_g R hr hst h16 M ew eh hk).mono (fun e w' h => ⟨h.1, h.2.2⟩)
  | good n w h h16 M ew eh hk hn h1 =>
    obtain ⟨_, w1, w2, g1, g2⟩ := kd0 (Nat.le_refl _) hk
    rw [if_neg (show ¬ w = 0 by omega)]
    exact (sides_g R hr hst h16 M ew eh hk).mono (fun e w' h => ⟨h.1, h.2.2⟩)

end Go.Proofs.YtboojlkncbipoaaGreat.Ff
