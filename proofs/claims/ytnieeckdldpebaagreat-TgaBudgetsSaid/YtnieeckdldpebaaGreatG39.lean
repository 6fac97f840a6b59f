/- Texts of one kind, one behind the other: Tr4. -/
import Derived.BigRegion
import Derived.Deep.CutRange
import Derived.Deep.LoopGhost
import Derived.Deep.RegionHeld3
import Derived.Deep.RegionWith
import Derived.Test.YtnieeckdldpebaaGreatG38
/- Layer 18: a pixel is read, and put where the next ones belong (written by wip/gen/tr4.py). -/
namespace Go.Proofs.YtnieeckdldpebaaGreat.Tr
open Go.ChangeShapes Go.WideShapes Go.ChangeAt Go.RowKit
open Go.Proofs.YtnieeckdldpebaaGreat.Sc Go.Proofs.YtnieeckdldpebaaGreat.Le Go.Proofs.YtnieeckdldpebaaGreat.Pa Go.Proofs.YtnieeckdldpebaaGreat.Tk Go.Proofs.YtnieeckdldpebaaGreat.Tg Go.Proofs.YtnieeckdldpebaaGreat.Tp Go.Proofs.YtnieeckdldpebaaGreat.Ra
set_option linter.unusedVariables false

/-- The pixels of a file, in block pb. -/
def PxB (pb c : Nat) (nm x2 fs cnt en gw gh d a : Nat) (mp lf tp : Bool) (pv : Value) (r : Nat) (nx lk : Int) (w : World) : Prop := w.heap[pb]? = some (.cells #[.pointer (some ⟨c, 0, none⟩), .int .i64 nm, .bool mp, .int .i64 x2, .int .i64 fs, .int .i64 cnt, .int .i64 en, .int .i64 gw, .int .i64 gh, .int .i64 d, .int .i64 a, .bool lf, .bool tp, pv, .pointer (some ⟨r, 0, none⟩), .int .i64 nx, .int .i64 lk] 162 (0, 0))
/-- The blocks that a reading works on. -/
structure BS (W : World) (M pb c l r cb g : Nat) : Prop where
  mw : M ≤ W.heap.size
  pc : pb ≠ c
  pl : pb ≠ l
  pr : pb ≠ r
  pcb : pb ≠ cb
  pg : pb ≠ g
  rc : r ≠ c
  cbc : cb ≠ c
  cbl : cb ≠ l
  gc : g ≠ c
  gl : g ≠ l
  rl : r ≠ l
  rg : r ≠ g
  cg : cb ≠ g
  pw : pb < W.heap.size
  cw : c < W.heap.size
  lw : l < W.heap.size
  rw : r < W.heap.size
  bw : cb < W.heap.size
  gw : g < W.heap.size
/-- What holds between pixels: those of z stand, and j more of the next one. -/
structure RS (W : World) (pb c l r cb g : Nat) (nm x2 fs cnt en gw gh d a : Nat) (mp lf tp : Bool) (pv : Value) (P : World → Prop) (C : Nat → Nat → Int) (s : ByteArray) (x : St) (o q n N : Nat) (L : List Nat) (w : World) : Prop where
  rd : Rd c l s q (stp x n) w
  ro : Ro r l cb g gw gh (rsl (plI gw gh lf tp) (fB C) L N) w
  px : PxB pb c nm x2 fs cnt en gw gh d a mp lf tp pv r (L.length : Nat) ((N - L.length : Nat) : Int) w
  pp : P w
  tn : Tn W w [g, pb, c, l]
theorem RS.step {W : World} {M pb c l r cb g : Nat} {nm x2 fs cnt en gw gh d a : Nat} {mp lf tp : Bool} {pv : Value} {P : World → Prop} {C : Nat → Nat → Int} {s : ByteArray} {x : St} {o q n N : Nat} {L : List Nat} {w w' : World} (h : RS W pb c l r cb g nm x2 fs cnt en gw gh d a mp lf tp pv P C s x o q n N L w) (hM : M ≤ W.heap.size) (hP : ∀ u u', P u → (∀ k, k < M → k ∉ [g, pb, c, l] → u'.heap[k]? = u.heap[k]?) → P u') (k : w.grownBy w' none) : RS W pb c l r cb g nm x2 fs cnt en gw gh d a mp lf tp pv P C s x o q n N L w' :=
  ⟨h.rd.grown k, h.ro.grown k (by simp) (by simp) (by simp), old0 k h.px (blk_lt h.px) (by simp), hP _ _ h.pp (fun i hi _ => k.block i (Nat.lt_of_lt_of_le hi (Nat.le_trans hM h.tn.size)) (by simp)), h.tn.trans (Tn.gb k (by simp))⟩
/-- Behind a reading of which z is what is told. -/
def RP (W : World) (pb c l r cb g : Nat) (nm x2 fs cnt en gw gh d a : Nat) (mp lf tp : Bool) (pv : Value) (P : World → Prop) (C : Nat → Nat → Int) (s : ByteArray) (x : St) (N : Nat) (z : PZ) (e : Ending) (w' : World) : Prop :=
  Tn W w' [g, pb, c, l] ∧ P w' ∧ ((z.f = 0 ∧ e = .returned okT ∧ RS W pb c l r cb g nm x2 fs cnt en gw gh d a mp lf tp pv P C s x 0 z.a z.n N z.l w') ∨
    (∃ (k b : Int) (q : Nat) (y : St) (R : ByteArray), EB s x z.f z.p z.n k b q y ∧ e = .returned (flT k b) ∧ Rd c l s q y w' ∧ Ro r l cb g gw gh R w'))

theorem tB {a b : World} {S : List Nat} (h : Tn a b S) : Bu.Tn a b S := ⟨h.os, h.tape, h.output, h.size, h.block⟩
theorem kept {u w : World} {S : List Nat} {b : Nat} {o : Obj} (t : Tn u w S) (h : u.heap[b]? = some o) (hb : b ∉ S) : w.heap[b]? = some o := (t.block _ (blk_lt h) hb).trans h
theorem blk_at1 {w : World} {o o' : Obj} : ((w.alloc o).alloc o').heap[w.heap.size + 1]? = some o' := by rw [← size_alloc w o]; exact blk_at
theorem blk_dr2 {w : World} {b : Nat} {x : Option Obj} (h : w.heap[b]? = x) : w.drew.heap[b]? = x := h
theorem p_gb {M pb c l g : Nat} {P : World → Prop} {u w : World} (hP : ∀ u u', P u → (∀ k, k < M → k ∉ [g, pb, c, l] → u'.heap[k]? = u.heap[k]?) → P u') (hM : M ≤ u.heap.size) (p : P u) (gg : u.grownBy w none) : P w := hP _ _ p (fun i hi _ => gg.block i (Nat.lt_of_lt_of_le hi hM) (by simp))
theorem size_set (w : World) (b o : Nat) (v : Value) : (w.setCell ⟨b, o, none⟩ v).heap.size = w.heap.size := by simp [World.setCell]
theorem blk_at4 {w : World} {b : Nat} {x0 x1 x2 x3 : Value} {o : Obj} : (((((w.setCell ⟨b, 0, none⟩ x0).setCell ⟨b, 1, none⟩ x1).setCell ⟨b, 2, none⟩ x2).setCell ⟨b, 3, none⟩ x3).alloc o).heap[w.heap.size]? = some o := by
  have h := blk_at (w := (((w.setCell ⟨b, 0, none⟩ x0).setCell ⟨b, 1, none⟩ x1).setCell ⟨b, 2, none⟩ x2).setCell ⟨b, 3, none⟩ x3) (o := o)
  rwa [size_set, size_set, size_set, size_set] at h
theorem blk_at3 {w : World} {b : Nat} {x0 x1 x2 : Value} {o : Obj} : ((((w.setCell ⟨b, 0, none⟩ x0).setCell ⟨b, 1, none⟩ x1).setCell ⟨b, 2, none⟩ x2).alloc o).heap[w.heap.size]? = some o := by
  have h := blk_at (w := ((w.setCell ⟨b, 0, none⟩ x0).setCell ⟨b, 1, none⟩ x1).setCell ⟨b, 2, none⟩ x2) (o := o)
  rwa [size_set, size_set, size_set] at h
theorem set4 {w : World} {b : Nat} {t : TypeId} {v0 v1 v2 v3 : Value} (h : w.heap[b]? = some (.cells #[v0, v1, v2, v3] t (0, 0))) (x0 x1 x2 x3 : Value) : ((((w.setCell ⟨b, 0, none⟩ x0).setCell ⟨b, 1, none⟩ x1).setCell ⟨b, 2, none⟩ x2).setCell ⟨b, 3, none⟩ x3).heap[b]? = some (.cells #[x0, x1, x2, x3] t (0, 0)) := blk_set (blk_set (blk_set (blk_set h 0 x0) 1 x1) 2 x2) 3 x3
theorem set3 {w : World} {b : Nat} {t : TypeId} {v0 v1 v2 : Value} (h : w.heap[b]? = some (.cells #[v0, v1, v2] t (0, 0))) (x0 x1 x2 : Value) : (((w.setCell ⟨b, 0, none⟩ x0).setCell ⟨b, 1, none⟩ x1).setCell ⟨b, 2, none⟩ x2).heap[b]? = some (.cells #[x0, x1, x2] t (0, 0)) := blk_set (blk_set (blk_set h 0 x0) 1 x1) 2 x2
/-- What holds behind Pixel, but the source. -/
structure AF (W : World) (pb c l r cb g hb : Nat) (nm x2 fs cnt en gw gh d a : Nat) (mp lf tp : Bool) (pv : Value) (P : World → Prop) (C : Nat → Nat → Int) (N : Nat) (L : List Nat) (w : World) : Prop where
  ro : Ro r l cb g gw gh (rsl (plI gw gh lf tp) (fB C) L N) w
  px : PxB pb c nm x2 fs cnt en gw gh d a mp lf tp pv r (L.length : Nat) ((N - L.length : Nat) : Int) w
  pp : P w
  tn : Tn W w [g, pb, c, l]
  fl : Fl hb 0 0 0 w
theorem RS.aft {W : World} {M pb c l r cb g hb : Nat} {nm x2 fs cnt en gw gh d a : Nat} {mp lf tp : Bool} {pv : Value} {P : World → Prop} {C : Nat → Nat → Int} {s : ByteArray} {x : St} {o q n N : Nat} {L : List Nat} {w0 u w1 : World} (h : RS W pb c l r cb g nm x2 fs cnt en gw gh d a mp lf tp pv P C s x o q n N L w0) (B : BS W M pb c l r cb g) (hF : Fl hb 0 0 0 w0) (hhb : hb = W.heap.size) (t : Tn u w1 [c, l]) (gg : w0.grownBy u none) (p : P w1) : AF W pb c l r cb g hb nm x2 fs cnt en gw gh d a mp lf tp pv P C N L w1 := by
  have hcb := h.ro.buf.bl
  refine ⟨(h.ro.grown gg (by simp) (by simp) (by simp)).turned (tB t) ?_ ?_ ?_, kept t (old0 gg h.px (blk_lt h.px) (by simp)) ?_, p, (h.tn.trans (Tn.gb gg (by simp))).trans (t.mono (by intro k hk; simp at hk ⊢; omega)), ?_⟩
  · simp [B.rc, B.rl]
  · simp [B.cbc, B.cbl]
  · simp [B.gc, B.gl]
  · simp [B.pc, B.pl]
  · exact (hF.turned (Tn.gb gg (S := []) (by simp)) (by simp)).turned t (by have := B.cw; have := B.lw; simp; omega)
/-- What comes of Pixel, in one form. -/
def P1 (b l : Nat) (s : ByteArray) (sz : Nat) (C : Nat → Nat → Int) (KD PL : Nat → Nat) (o : Nat) (x : St) (c0 c1 c2 c3 k f b' : Int) (w' : World) : Prop :=
  (KD o = 0 ∧ x.st + 1 ≤ x.s ∧ k = 0 ∧ f = 0 ∧ b' = 0 ∧ c0 = C o 0 ∧ c1 = C o 1 ∧ c2 = C o 2 ∧ c3 = C o 3 ∧ Rd b l s (o + sz) (stp x 1) w') ∨ (∃ (q : Nat) (y : St), EB s x (KD o) (PL o) 1 k b' q y ∧ f = 2 ∧ Rd b l s q y w')
theorem PO.one {W : World} {b l : Nat} {s : ByteArray} {sz : Nat} {P : World → Prop} {C : Nat → Nat → Int} {KD PL : Nat → Nat} {o : Nat} {x : St} {e : Ending} {w' : World} (h : PO W b l s sz P C KD PL o x e w') :
    ∃ c0 c1 c2 c3 k f b', e = .returned (.tuple #[.agg #[.int .u8 c0, .int .u8 c1, .int .u8 c2, .int .u8 c3], .agg #[.int .i64 k, .int .i64 f, .int .i64 b']]) ∧ Tn W w' [b, l] ∧ P w' ∧ P1 b l s sz C KD PL o x c0 c1 c2 c3 k f b' w' := by
  obtain ⟨t, p, ⟨h1, h2, h3, h4⟩ | ⟨k, a, q, y, h1, h2, h3⟩⟩ := h
  · exact ⟨_, _, _, _, _, _, _, h3, t, p, .inl ⟨h1, h2, rfl, rfl, rfl, rfl, rfl, rfl, rfl, h4⟩⟩
  · exact ⟨_, _, _, _, _, _, _, h2, t, p, .inr ⟨q, y, h1, rfl, h3⟩⟩

/-- Behind Pixel's call: the boxes of the colour and of the fault. -/
structure BX (W : World) (pb c l r cb g hb : Nat) (nm x2 fs cnt en gw gh d a : Nat) (mp lf tp : Bool) (pv : Value) (P : World → Prop) (C : Nat → Nat → Int) (N : Nat) (L : List Nat) (s : ByteArray) (sz : Nat) (KD PL : Nat → Nat) (o : Nat) (x : St) (A B : Nat) (c0 c1 c2 c3 k f b' : Int) (w : World) : Prop where
  col : w.heap[A]? = some (.cells #[.int .u8 c0, .int .u8 c1, .int .u8 c2, .int .u8 c3] 135 (0, 0))
  flt : Fl B k f b' w
  ne : A ≠ B
  hA : hb < A
  hB : hb < B
  af : AF W pb c l r cb g hb nm x2 fs cnt en gw gh d a mp lf tp pv P C N L w
  p1 : P1 c l s sz C KD PL o x c0 c1 c2 c3 k f b' w
theorem _root_.Go.Proofs.YtnieeckdldpebaaGreat.Tk.Rd.own {c l : Nat} {s : ByteArray} {p : Nat} {x : St} {w w' : World} {S : List Nat} (h : Rd c l s p x w) (t : Tn w w' S) (hc : c ∉ S) (hl : l ∉ S) : Rd c l s p x w' := ⟨h.so.turned t hc, h.led.turned t hl, h.ok⟩
theorem BX.mk' {W : World} {M pb c l r cb g hb : Nat} {nm x2 fs cnt en gw gh d a : Nat} {mp lf tp : Bool} {pv : Value} {P : World → Prop} {C : Nat → Nat → Int} {N : Nat} {L : List Nat} {s : ByteArray} {sz : Nat} {KD PL : Nat → Nat} {o : Nat} {x : St} {A B : Nat} {c0 c1 c2 c3 k f b' : Int} {w1 w : World}
    (Bs : BS W M pb c l r cb g) (hP : ∀ u u', P u → (∀ k, k < M → k ∉ [g, pb, c, l] → u'.heap[k]? = u.heap[k]?) → P u') (hhb : hb = W.heap.size) (h : AF W pb c l r cb g hb nm x2 fs cnt en gw gh d a mp lf tp pv P C N L w1) (h1 : P1 c l s sz C KD PL o x c0 c1 c2 c3 k f b' w1) (t : Tn w1 w [A, B]) (hA : hb < A) (hB : hb < B) (ne : A ≠ B)
    (col : w.heap[A]? = some (.cells #[.int .u8 c0, .int .u8 c1, .int .u8 c2, .int .u8 c3] 135 (0, 0))) (flt : Fl B k f b' w) : BX W pb c l r cb g hb nm x2 fs cnt en gw gh d a mp lf tp pv P C N L s sz KD PL o x A B c0 c1 c2 c3 k f b' w := by
  have q1 := Bs.pw
  have q2 := Bs.cw
  have q3 := Bs.lw
  have q4 := Bs.rw
  have q5 := Bs.bw
  have q6 := Bs.gw
  have q7 := Bs.mw
  refine ⟨col, flt, ne, hA, hB, ⟨h.ro.turned (tB t) (by simp; omega) (by simp; omega) (by simp; omega), (t.block _ (blk_lt h.px) (by simp; omega)).trans h.px, hP _ _ h.pp (fun i hi _ => t.block i (Nat.lt_of_lt_of_le hi (Nat.le_trans q7 h.tn.size)) (by simp; omega)), h.tn.over t (by intro i hi; simp at hi; left; omega), h.fl.turned t (by simp; omega)⟩, ?_⟩
  rcases h1 with ⟨e1, e2, e3, e4, e5, e6, e7, e8, e9, R⟩ | ⟨q, y, E, e2, R⟩
  · exact .inl ⟨e1, e2, e3, e4, e5, e6, e7, e8, e9, R.own t (by simp; omega) (by simp; omega)⟩
  · exact .inr ⟨q, y, E, e2, R.own t (by simp; omega) (by simp; omega)⟩

/-- A pixel that ends badly. -/
theorem eb_pix {s : ByteArray} {x : St} {KD PL : Nat → Nat} {sz m : Nat} {z : PZ} {k b' : Int} {q : Nat} {y : St} (hz : z.f = 0) (E : EB s (stp x z.n) (KD z.a) (PL z.a) 1 k b' q y) :
    EB s x (pix KD PL sz m z).f (pix KD PL sz m z).p (pix KD PL sz m z).n k b' q y := by
  by_cases hk : KD z.a = 0
  · rw [pix_yes hz hk]
    exact E.lift (fun h => absurd hk h) (by show z.n + 1 ≤ z.n + 1 + m; omega)
  · rw [pix_no hz hk]
    exact E.lift (fun _ => ⟨rfl, rfl, rfl⟩) (Nat.le_refl _)
theorem AF.res {W : World} {M pb c l r cb g hb : Nat} {nm x2 fs cnt en gw gh d a : Nat} {mp lf tp : Bool} {pv : Value} {P : World → Prop} {C : Nat → Nat → Int} {N : Nat} {L : List Nat} {w w' : World} (h : AF W pb c l r cb g hb nm x2 fs cnt en gw gh d a mp lf tp pv P C N L w) (Bs : BS W M pb c l r cb g) (hP : ∀ u u', P u → (∀ k, k < M → k ∉ [g, pb, c, l] → u'.heap[k]? = u.heap[k]?) → P u') (hhb : hb = W.heap.size) (t : Tn w w' [hb]) :
    Tn W w' [g, pb, c, l] ∧ P w' ∧ Ro r l cb g gw gh (rsl (plI gw gh lf tp) (fB C) L N) w' ∧ PxB pb c nm x2 fs cnt en gw gh d a mp lf tp pv r (L.length : Nat) ((N - L.length : Nat) : Int) w' := by
  have q1 := Bs.pw
  have q4 := Bs.rw
  have q5 := Bs.bw
  have q6 := Bs.gw
  have q7 := Bs.mw
  exact ⟨h.tn.over t (by intro i hi; simp at hi; left; omega), hP _ _ h.pp (fun i hi _ => t.block i (Nat.lt_of_lt_of_le hi (Nat.le_trans q7 h.tn.size)) (by simp; omega)), h.ro.turned (tB t) (by simp; omega) (by simp; omega) (by simp; omega), (t.block _ (blk_lt h.px) (by simp; omega)).trans h.px⟩
/-- What holds while a pixel is put where it belongs: j times so far. -/
structure LI (W : World) (pb c l r cb g hb A : Nat) (nm x2 fs cnt en gw gh d a : Nat) (mp lf tp : Bool) (pv : Value) (P : World → Prop) (C : Nat → Nat → Int) (N : Nat) (s : ByteArray) (sz : Nat) (x : St) (z : PZ) (j : Nat) (w : World) : Prop where
  rd : Rd c l s (z.a + sz) (stp x (z.n + 1 + j)) w
  af : AF W pb c l r cb g hb nm x2 fs cnt en gw gh d a mp lf tp pv P C N (z.l ++ List.replicate j z.a) w
  col : w.heap[A]? = some (.cells #[.int .u8 (C z.a 0), .int .u8 (C z.a 1), .int .u8 (C z.a 2), .int .u8 (C z.a 3)] 135 (0, 0))
  hA : hb < A
theorem LI.grown {W : World} {M pb c l r cb g hb A : Nat} {nm x2 fs cnt en gw gh d a : Nat} {mp lf tp : Bool} {pv : Value} {P : World → Prop} {C : Nat → Nat → Int} {N : Nat} {s : ByteArray} {sz : Nat} {x : St} {z : PZ} {j : Nat} {w w' : World} (h : LI W pb c l r cb g hb A nm x2 fs cnt en gw gh d a mp lf tp pv P C N s sz x z j w) (hM : M ≤ W.heap.size) (hP : ∀ u u', P u → (∀ k, k < M → k ∉ [g, pb, c, l] → u'.heap[k]? = u.heap[k]?) → P u') (k : w.grownBy w' none) : LI W pb c l r cb g hb A nm x2 fs cnt en gw gh d a mp lf tp pv P C N s sz x z j w' :=
  ⟨h.rd.grown k, ⟨h.af.ro.grown k (by simp) (by simp) (by simp), old0 k h.af.px (blk_lt h.af.px) (by simp), p_gb hP (Nat.le_trans hM h.af.tn.size) h.af.pp k, h.af.tn.trans (Tn.gb k (by simp)), h.af.fl.turned (Tn.gb k (S := []) (by simp)) (by simp)⟩, old0 k h.col (blk_lt h.col) (by simp), h.hA⟩

theorem rep_snoc (L : List Nat) (j o : Nat) : L ++ List.replicate (j + 1) o = (L ++ List.replicate j o) ++ [o] := by
  rw [List.append_assoc, List.replicate_succ']
theorem LI.next {W : World} {M pb c l r cb g hb A : Nat} {nm x2 fs cnt en gw gh d a : Nat} {mp lf tp : Bool} {pv : Value} {P : World → Prop} {C : Nat → Nat → Int} {N : Nat} {s : ByteArray} {sz : Nat} {x : St} {z : PZ} {j : Nat} {w u : World} (h : LI W pb c l r cb g hb A nm x2 fs cnt en gw gh d a mp lf tp pv P C N s sz x z j w) (Bs : BS W M pb c l r cb g) (hP : ∀ u u', P u → (∀ k, k < M → k ∉ [g, pb, c, l] → u'.heap[k]? = u.heap[k]?) → P u') (hhb : hb = W.heap.size)
    (t : Tn w u [l, g]) (ro : Ro r l cb g gw gh (rsl (plI gw gh lf tp) (fB C) ((z.l ++ List.replicate j z.a) ++ [z.a]) N) u) (led : Led l (stp x (z.n + 1 + j + 1)).ls u) (ok : (stp x (z.n + 1 + j + 1)).Ok) (n1 k1 : Nat) (hn : (z.l ++ List.replicate j z.a).length + 1 = n1) (hk : N - n1 = k1) :
    LI W pb c l r cb g hb A nm x2 fs cnt en gw gh d a mp lf tp pv P C N s sz x z (j + 1) ((u.setCell ⟨pb, 15, none⟩ (.int .i64 n1)).setCell ⟨pb, 16, none⟩ (.int .i64 k1)) := by
  have q1 := Bs.pw
  have q2 := Bs.cw
  have q3 := Bs.lw
  have q4 := Bs.rw
  have q5 := Bs.bw
  have q6 := Bs.gw
  have q7 := Bs.mw
  have qA := h.hA
  have t2 : Tn u ((u.setCell ⟨pb, 15, none⟩ (.int .i64 n1)).setCell ⟨pb, 16, none⟩ (.int .i64 k1)) [pb] := ((Tn.refl u [pb]).st (by simp)).st (by simp)
  have t3 : Tn w ((u.setCell ⟨pb, 15, none⟩ (.int .i64 n1)).setCell ⟨pb, 16, none⟩ (.int .i64 k1)) [g, pb, c, l] := (t.mono (by intro i hi; simp at hi ⊢; omega)).trans (t2.mono (by intro i hi; simp at hi ⊢; omega))
  have px : PxB pb c nm x2 fs cnt en gw gh d a mp lf tp pv r n1 k1 ((u.setCell ⟨pb, 15, none⟩ (.int .i64 n1)).setCell ⟨pb, 16, none⟩ (.int .i64 k1)) := blk_set (blk_set ((t.block _ (blk_lt h.af.px) (by simp; exact ⟨Bs.pl, Bs.pg⟩)).trans h.af.px) 15 (.int .i64 n1)) 16 (.int .i64 k1)
  have hl : ((z.l ++ List.replicate j z.a) ++ [z.a]).length = n1 := by rw [List.length_append]; exact hn
  refine ⟨⟨(h.rd.so.turned t (by simp; exact ⟨h.rd.so.bl, fun e => Bs.gc e.symm⟩)).turned t2 (by simp; exact fun e => Bs.pc e.symm), led.turned t2 (by simp; exact fun e => Bs.pl e.symm), ok⟩, ⟨?_, ?_, hP _ _ h.af.pp (fun i hi hn => t3.block i (Nat.lt_of_lt_of_le hi (Nat.le_trans q7 h.af.tn.size)) hn), h.af.tn.trans t3, h.af.fl.turned t3 (by simp; omega)⟩, (t3.block _ (blk_lt h.col) (by simp; omega)).trans h.col, qA⟩
  · rw [rep_snoc]
    exact ro.turned (tB t2) (by simp; exact fun e => Bs.pr e.symm) (by simp; exact fun e => Bs.pcb e.symm) (by simp; exact fun e => Bs.pg e.symm)
  · rw [rep_snoc, hl, hk]
    exact px

set_option maxRecDepth 100000 in
set_option maxHeartbeats 4000000 in
theorem read_calls (W : World) (M pb c l r cb g sz N m : Nat) (nm x2 fs cnt en gw gh d a : Nat) (mp lf tp : Bool) (pv : Value) (P : World → Prop) (C : Nat → Nat → Int) (KD PL : Nat → Nat) (s : ByteArray) (x : St) (z : PZ) (B : BS W M pb c l r cb g) (hP : ∀ u u', P u → (∀ k, k < M → k ∉ [g, pb, c, l] → u'.heap[k]? = u.heap[k]?) → P u')
    (hb : KB s KD PL sz) (hC : ∀ o j, 0 ≤ C o j ∧ C o j ≤ 255) (KX0 : CodeR c l s sz #[.int .i64 nm, .bool mp, .int .i64 x2, .int .i64 fs, .int .i64 cnt, .int .i64 en, .int .i64 gw, .int .i64 gh, .int .i64 d, .int .i64 a, .bool lf, .bool tp] pv P C KD PL) (hN : gw * gh = N) (h1 : 1 ≤ gw) (hw : gw ≤ 16384) (hh : gh ≤ 16384) (hr : x.r = 0) (hz : z.f = 0) (hza : z.a ≤ s.size) (hm : z.l.length + m ≤ N) (I : RS W pb c l r cb g nm x2 fs cnt en gw gh d a mp lf tp pv P C s x 0 z.a z.n N z.l W) :
    Calls Tryz.prog 104 #[.pointer (some ⟨pb, 0, none⟩), .int .i64 m] W (RP W pb c l r cb g nm x2 fs cnt en gw gh d a mp lf tp pv P C s x N (pix KD PL sz m z)) := by
  have HI := Lib.hid I
  have HB := Lib.hid B
  have HP := Lib.hid hP
  have HC := Lib.hid hC
  have HKB := Lib.hid hb
  have KX := Lib.hid KX0
  have HNN := Lib.hid (And.intro hN (And.intro h1 (And.intro hw hh)))
  have HZ := Lib.hid (And.intro hr (And.intro hz (And.intro hza hm)))
  have hpw := B.pw
  clear I hP hC hb KX0 hN h1 hw hh hr hz hza hm
  obtain ⟨Q, hQ⟩ : ∃ Q, RP W pb c l r cb g nm x2 fs cnt en gw gh d a mp lf tp pv P C s x N (pix KD PL sz m z) = Q := ⟨_, rfl⟩
  rw [hQ]
  have HQ := Lib.hid hQ
  clear hQ
  go_enter Tryz.func104, Tryz.ntmps104
  go_wp2_with fail
  obtain ⟨hb, hhb⟩ : ∃ q, W.heap.size = q := ⟨_, rfl⟩
  have HG0 := Lib.hid (World.grownBy_alloc W (.cells #[.int .i64 0, .int .i64 0, .int .i64 0] 29) none)
  have HF0 := Lib.hid (show Fl hb 0 0 0 (W.alloc (.cells #[.int .i64 0, .int .i64 0, .int .i64 0] 29)) from by rw [← hhb]; exact Fl.new W)
  have HI0 := Lib.hid (HI.out.step B.mw HP.out HG0.out)
  have HSW := Lib.hid (show (W.alloc (.cells #[.int .i64 0, .int .i64 0, .int .i64 0] 29)).heap.size = hb + 1 from by rw [size_alloc, hhb])
  rw [hhb] at hpw ⊢
  have HHB := Lib.hid hhb
  generalize W.alloc (.cells #[.int .i64 0, .int .i64 0, .int .i64 0] 29) = w0 at HG0 HF0 HI0 HSW ⊢
  clear hhb HI B
  have p_0 : w0.cell? ⟨pb, 0, none⟩ = some (.pointer (some ⟨c, 0, none⟩)) := blk_cell HI0.out.px 0
  have p_1 : w0.cell? ⟨pb, 1, none⟩ = some (.int .i64 nm) := blk_cell HI0.out.px 1
  have p_2 : w0.cell? ⟨pb, 2, none⟩ = some (.bool mp) := blk_cell HI0.out.px 2
  have p_3 : w0.cell? ⟨pb, 3, none⟩ = some (.int .i64 x2) := blk_cell HI0.out.px 3
  have p_4 : w0.cell? ⟨pb, 4, none⟩ = some (.int .i64 fs) := blk_cell HI0.out.px 4
  have p_5 : w0.cell? ⟨pb, 5, none⟩ = some (.int .i64 cnt) := blk_cell HI0.out.px 5
  have p_6 : w0.cell? ⟨pb, 6, none⟩ = some (.int .i64 en) := blk_cell HI0.out.px 6
  have p_7 : w0.cell? ⟨pb, 7, none⟩ = some (.int .i64 gw) := blk_cell HI0.out.px 7
  have p_8 : w0.cell? ⟨pb, 8, none⟩ = some (.int .i64 gh) := blk_cell HI0.out.px 8
  have p_9 : w0.cell? ⟨pb, 9, none⟩ = some (.int .i64 d) := blk_cell HI0.out.px 9
  have p_10 : w0.cell? ⟨pb, 10, none⟩ = some (.int .i64 a) := blk_cell HI0.out.px 10
  have p_11 : w0.cell? ⟨pb, 11, none⟩ = some (.bool lf) := blk_cell HI0.out.px 11
  have p_12 : w0.cell? ⟨pb, 12, none⟩ = some (.bool tp) := blk_cell HI0.out.px 12
  have p_13 : w0.cell? ⟨pb, 13, none⟩ = some (pv) := blk_cell HI0.out.px 13
  have p_14 : w0.cell? ⟨pb, 14, none⟩ = some (.pointer (some ⟨r, 0, none⟩)) := blk_cell HI0.out.px 14
  have p_15 : w0.cell? ⟨pb, 15, none⟩ = some (.int .i64 (z.l.length : Nat)) := blk_cell HI0.out.px 15
  have p_16 : w0.cell? ⟨pb, 16, none⟩ = some (.int .i64 ((N - z.l.length : Nat) : Int)) := blk_cell HI0.out.px 16
  have hsz1 := HG0.out.size
  have hw0 : w0.heap.size = hb + 1 := by have := HSW.out; exact this
  have n1 : ¬ pb = w0.heap.size := by omega
  have n2 : ¬ w0.heap.size = pb := by omega
  have n3 : ¬ pb = w0.heap.size + 1 := by omega
  have n4 : ¬ w0.heap.size + 1 = pb := by omega
  have HW0 := Lib.hid hw0
  clear hw0
  go_cut [5, 6] from 9 (fun sA sB wx => ∃ A B c0 c1 c2 c3 k f b', sA = .pointer (some ⟨A, 0, none⟩) ∧ sB = .pointer (some ⟨B, 0, none⟩) ∧ BX W pb c l r cb g hb nm x2 fs cnt en gw gh d a mp lf tp pv P C N z.l s sz KD PL z.a (stp x z.n) A B c0 c1 c2 c3 k f b' wx)
  case first =>
    go_region_held3 (fun w' => w'.cell? ⟨pb, 0, none⟩ = some (.pointer (some ⟨c, 0, none⟩)) ∧ w'.cell? ⟨pb, 1, none⟩ = some (.int .i64 nm) ∧ w'.cell? ⟨pb, 2, none⟩ = some (.bool mp) ∧ w'.cell? ⟨pb, 3, none⟩ = some (.int .i64 x2) ∧ w'.cell? ⟨pb, 4, none⟩ = some (.int .i64 fs) ∧ w'.cell? ⟨pb, 5, none⟩ = some (.int .i64 cnt) ∧ w'.cell? ⟨pb, 6, none⟩ = some (.int .i64 en) ∧ w'.cell? ⟨pb, 7, none⟩ = some (.int .i64 gw) ∧ w'.cell? ⟨pb, 8, none⟩ = some (.int .i64 gh) ∧ w'.cell? ⟨pb, 9, none⟩ = some (.int .i64 d) ∧ w'.cell? ⟨pb, 10, none⟩ = some (.int .i64 a) ∧ w'.cell? ⟨pb, 11, none⟩ = some (.bool lf) ∧ w'.cell? ⟨pb, 12, none⟩ = some (.bool tp) ∧ w'.cell? ⟨pb, 13, none⟩ = some pv) (go_keep) (first
        | (go_at_call 132; refine (KX.out z.a (stp x z.n) _ HZ.out.2.2.1 (HI0.out.rd.grown (by repeat' first | with_reducible exact gb_refl _ _ | with_reducible refine gb_trans ?_ (gb_drew _ _) | with_reducible refine gb_trans ?_ (World.grownBy_alloc _ _ _))) HZ.out.1 (p_gb HP.out (Nat.le_trans HB.out.mw HG0.out.size) HI0.out.pp (by repeat' first | with_reducible exact gb_refl _ none | with_reducible refine gb_trans ?_ (gb_drew _ none) | with_reducible refine gb_trans ?_ (World.grownBy_alloc _ _ none)))).mono ?_; intro e w1 hpo; obtain ⟨c0, c1, c2, c3, k, f, b', rfl, t1, p1, h1⟩ := hpo.one; have hcw := HB.out.cw; have hlw := HB.out.lw; have hsz0 := HG0.out.size; have hh0 : w0.heap.size ∉ [c, l] := (by simp; omega); have hh1 : w0.heap.size + 1 ∉ [c, l] := (by simp; omega); (try (have Q1 : w1.heap[w0.heap.size]? = some (.cells #[.int .u8 0, .int .u8 0, .int .u8 0, .int .u8 0] 135 (0, 0)) := (by first | exact kept t1 (blk_at) hh0 | exact kept t1 (blk_dr2 blk_at) hh0 | exact kept t1 (blk_al blk_at _) hh0 | exact kept t1 (blk_dr2 (blk_al blk_at _)) hh0); have Q1l := blk_lt Q1; have Q1c0 := blk_cell Q1 0; have Q1f0 := blk_free Q1 0; have Q1c1 := blk_cell Q1 1; have Q1f1 := blk_free Q1 1; have Q1c2 := blk_cell Q1 2; have Q1f2 := blk_free Q1 2; have Q1c3 := blk_cell Q1 3; have Q1f3 := blk_free Q1 3)); (try (have Q2 : w1.heap[w0.heap.size]? = some (.cells #[.int .i64 0, .int .i64 0, .int .i64 0] 29 (0, 0)) := (by first | exact kept t1 (blk_at) hh0 | exact kept t1 (blk_dr2 blk_at) hh0 | exact kept t1 (blk_al blk_at _) hh0 | exact kept t1 (blk_dr2 (blk_al blk_at _)) hh0); have Q2l := blk_lt Q2; have Q2c0 := blk_cell Q2 0; have Q2f0 := blk_free Q2 0; have Q2c1 := blk_cell Q2 1; have Q2f1 := blk_free Q2 1; have Q2c2 := blk_cell Q2 2; have Q2f2 := blk_free Q2 2)); (try (have Q3 : w1.heap[w0.heap.size + 1]? = some (.cells #[.int .u8 0, .int .u8 0, .int .u8 0, .int .u8 0] 135 (0, 0)) := (by first | exact kept t1 (blk_at1) hh1 | exact kept t1 (blk_dr2 blk_at1) hh1); have Q3l := blk_lt Q3; have Q3c0 := blk_cell Q3 0; have Q3f0 := blk_free Q3 0; have Q3c1 := blk_cell Q3 1; have Q3f1 := blk_free Q3 1; have Q3c2 := blk_cell Q3 2; have Q3f2 := blk_free Q3 2; have Q3c3 := blk_cell Q3 3; have Q3f3 := blk_free Q3 3)); (try (have Q4 : w1.heap[w0.heap.size + 1]? = some (.cells #[.int .i64 0, .int .i64 0, .int .i64 0] 29 (0, 0)) := (by first | exact kept t1 (blk_at1) hh1 | exact kept t1 (blk_dr2 blk_at1) hh1); have Q4l := blk_lt Q4; have Q4c0 := blk_cell Q4 0; have Q4f0 := blk_free Q4 0; have Q4c1 := blk_cell Q4 1; have Q4f1 := blk_free Q4 1; have Q4c2 := blk_cell Q4 2; have Q4f2 := blk_free Q4 2)); (first | have ha1 := HI0.out.aft HB.out HF0.out HHB.out.symm t1 (gb_drew _ _) p1 | have ha1 := HI0.out.aft HB.out HF0.out HHB.out.symm t1 (gb_trans (World.grownBy_alloc _ _ _) (gb_drew _ _)) p1 | have ha1 := HI0.out.aft HB.out HF0.out HHB.out.symm t1 (gb_trans (gb_trans (World.grownBy_alloc _ _ _) (World.grownBy_alloc _ _ _)) (gb_drew _ _)) p1 | have ha1 := HI0.out.aft HB.out HF0.out HHB.out.symm t1 (gb_refl _ _) p1 | have ha1 := HI0.out.aft HB.out HF0.out HHB.out.symm t1 (World.grownBy_alloc _ _ _) p1 | have ha1 := HI0.out.aft HB.out HF0.out HHB.out.symm t1 (gb_trans (World.grownBy_alloc _ _ _) (World.grownBy_alloc _ _ _)) p1); have zz1 := HW0.out; have zz2 := ha1.tn.size; have zz3 := blk_lt ha1.fl; have n5 : ¬ pb = w1.heap.size := (by omega); have n6 : ¬ w1.heap.size = pb := (by omega); have n7 : ¬ pb = w1.heap.size + 1 := (by omega); have n8 : ¬ w1.heap.size + 1 = pb := (by omega); clear zz1 zz2 zz3; have HA1 := Lib.hid ha1; have HH1 := Lib.hid h1; clear hpo t1 p1 h1 ha1; have m0 := blk_cell HA1.out.px 0; have m1 := blk_cell HA1.out.px 1; have m2 := blk_cell HA1.out.px 2; have m3 := blk_cell HA1.out.px 3; have m4 := blk_cell HA1.out.px 4; have m5 := blk_cell HA1.out.px 5; have m6 := blk_cell HA1.out.px 6; have m7 := blk_cell HA1.out.px 7; have m8 := blk_cell HA1.out.px 8; have m9 := blk_cell HA1.out.px 9; have m10 := blk_cell HA1.out.px 10; have m11 := blk_cell HA1.out.px 11; have m12 := blk_cell HA1.out.px 12; have m13 := blk_cell HA1.out.px 13))
    all_goals
      have hw0 := HW0.out
      have hs1 := HA1.out.tn.size
      have hs2 := blk_lt HA1.out.fl
      go_wp2_with fail
      go_meet
      case rel =>
        refine ⟨_, _, c0, c1, c2, c3, k, f, b', rfl, rfl, BX.mk' HB.out HP.out HHB.out.symm HA1.out HH1.out ?_ ?_ ?_ ?_ ?_ ?_⟩
        · repeat' first | with_reducible exact Tn.refl _ _ | with_reducible refine Tn.al ?_ | with_reducible refine Tn.st ?_ (by simp)
        · omega
        · omega
        · omega
        · repeat' first | with_reducible exact blk_at | with_reducible exact blk_at1 | with_reducible exact blk_at3 | with_reducible exact blk_at4 | with_reducible refine set4 (v0 := .int .u8 0) (v1 := .int .u8 0) (v2 := .int .u8 0) (v3 := .int .u8 0) ?_ _ _ _ _ | with_reducible exact Q1 | with_reducible exact Q3 | with_reducible refine blk_al ?_ _ | with_reducible refine blk_other ?_ (by omega)
        · unfold Fl; repeat' first | with_reducible exact blk_at | with_reducible exact blk_at1 | with_reducible exact blk_at3 | with_reducible exact blk_at4 | with_reducible refine set3 (v0 := .int .i64 0) (v1 := .int .i64 0) (v2 := .int .i64 0) ?_ _ _ _ | with_reducible exact Q2 | with_reducible exact Q4 | with_reducible refine blk_al ?_ _ | with_reducible refine blk_other ?_ (by omega)
  case rest =>
    obtain ⟨A, B, c0, c1, c2, c3, k, f, b', rfl, rfl, bx⟩ := hcut
    have hB := bx.hB
    have hA := bx.hA
    have hne := bx.ne
    have Q := HQ.out
    have f0 := bx.flt.c0
    have f1 := bx.flt.c1
    have f2 := bx.flt.c2
    have fl := bx.flt.lt
    have r0 := bx.af.fl.c0
    have r1 := bx.af.fl.c1
    have r2 := bx.af.fl.c2
    have rf0 := bx.af.fl.free 0
    have rf1 := bx.af.fl.free 1
    have rf2 := bx.af.fl.free 2
    have rl := bx.af.fl.lt
    have nB : ¬ B = hb := by omega
    have nB' : ¬ hb = B := by omega
    rcases bx.p1 with ⟨e1, e2, rfl, rfl, rfl, rfl, rfl, rfl, rfl, R⟩ | ⟨q, y, E, rfl, R⟩
    · have HBX := Lib.hid bx
      have HR := Lib.hid R
      have HE := Lib.hid (And.intro e1 e2)
      clear bx R e1 e2 Q nB nB'
      go_wp2_with fail
      clear f0 f1 f2 fl r0 r1 r2 rf0 rf1 rf2 rl
      have HL0 := Lib.hid (show LI W pb c l r cb g hb A nm x2 fs cnt en gw gh d a mp lf tp pv P C N s sz x z 0 wc from ⟨by rw [stp_stp] at HR; exact HR.out, by show AF W pb c l r cb g hb nm x2 fs cnt en gw gh d a mp lf tp pv P C N (z.l ++ []) wc; rw [List.append_nil]; exact HBX.out.af, HBX.out.col, hA⟩)
      go_loopg [30] m (fun q iv wx => ∃ j : Nat, j ≤ m ∧ q = m - j ∧ iv = .int .i64 j ∧ LI W pb c l r cb g hb A nm x2 fs cnt en gw gh d a mp lf tp pv P C N s sz x z j wx)
      case atStart => exact ⟨0, Nat.zero_le _, rfl, rfl, HL0.out⟩
      case round =>
        obtain ⟨j, hj, rfl, rfl, I⟩ := hrel
        have HL := Lib.hid I
        clear I HL0
        by_cases hjm : j < m
        · have d1 : (j : Int) < (m : Int) := by omega
          obtain ⟨LL, hLL⟩ : ∃ q, z.l ++ List.replicate j z.a = q := ⟨_, rfl⟩
          obtain ⟨n, hn⟩ : ∃ q, LL.length = q := ⟨_, rfl⟩
          have hnv : n = z.l.length + j := by rw [← hn, ← hLL, List.length_append, List.length_replicate]
          have hnN : n < N := by have := HZ.out.2.2.2; omega
          have hNb : N ≤ 16384 * 16384 := by have := HNN.out; rw [← this.1]; exact Nat.mul_le_mul this.2.2.1 this.2.2.2
          have wj : IntKind.i64.wrap ((j : Int) + 1) = (j : Int) + 1 := by have := HZ.out.2.2.2; exact IntWalk.i64_in _ (by omega)
          obtain ⟨n1, hn1⟩ : ∃ q, n + 1 = q := ⟨_, rfl⟩
          obtain ⟨k0, hk0⟩ : ∃ q, N - n = q := ⟨_, rfl⟩
          obtain ⟨k1, hk1⟩ : ∃ q, N - n1 = q := ⟨_, rfl⟩
          have w1 : IntKind.i64.wrap ((n : Int) + 1) = (n1 : Int) := by rw [IntWalk.i64_in _ (by omega)]; omega
          have w2 : IntKind.i64.wrap ((k0 : Int) - 1) = (k1 : Int) := by rw [IntWalk.i64_in _ (by omega)]; omega
          have AFj := HL.out.af
          rw [hLL] at AFj
          have px := AFj.px
          rw [hn, hk0] at px
          have HAF := Lib.hid AFj
          have KPl := Lib.hid (fun u => place_calls nm x2 fs cnt en gw gh d a mp lf tp n u HNN.out.2.1 HNN.out.2.2.1 HNN.out.2.2.2 (by rw [HNN.out.1]; exact hnN))
          obtain ⟨X, hX⟩ : ∃ q, plX gw lf n = q := ⟨_, rfl⟩
          obtain ⟨Y, hY⟩ : ∃ q, plY gw gh tp n = q := ⟨_, rfl⟩
          rw [hX, hY] at KPl
          have HLL := Lib.hid hLL
          have HN := Lib.hid (And.intro hn (And.intro hn1 (And.intro hk0 (And.intro hk1 (And.intro hX hY)))))
          have p_0 : wr.cell? ⟨pb, 0, none⟩ = some (.pointer (some ⟨c, 0, none⟩)) := blk_cell px 0
          have p_1 : wr.cell? ⟨pb, 1, none⟩ = some (.int .i64 nm) := blk_cell px 1
          have p_2 : wr.cell? ⟨pb, 2, none⟩ = some (.bool mp) := blk_cell px 2
          have p_3 : wr.cell? ⟨pb, 3, none⟩ = some (.int .i64 x2) := blk_cell px 3
          have p_4 : wr.cell? ⟨pb, 4, none⟩ = some (.int .i64 fs) := blk_cell px 4
          have p_5 : wr.cell? ⟨pb, 5, none⟩ = some (.int .i64 cnt) := blk_cell px 5
          have p_6 : wr.cell? ⟨pb, 6, none⟩ = some (.int .i64 en) := blk_cell px 6
          have p_7 : wr.cell? ⟨pb, 7, none⟩ = some (.int .i64 gw) := blk_cell px 7
          have p_8 : wr.cell? ⟨pb, 8, none⟩ = some (.int .i64 gh) := blk_cell px 8
          have p_9 : wr.cell? ⟨pb, 9, none⟩ = some (.int .i64 d) := blk_cell px 9
          have p_10 : wr.cell? ⟨pb, 10, none⟩ = some (.int .i64 a) := blk_cell px 10
          have p_11 : wr.cell? ⟨pb, 11, none⟩ = some (.bool lf) := blk_cell px 11
          have p_12 : wr.cell? ⟨pb, 12, none⟩ = some (.bool tp) := blk_cell px 12
          have p_13 : wr.cell? ⟨pb, 13, none⟩ = some (pv) := blk_cell px 13
          have p_14 : wr.cell? ⟨pb, 14, none⟩ = some (.pointer (some ⟨r, 0, none⟩)) := blk_cell px 14
          have p_15 : wr.cell? ⟨pb, 15, none⟩ = some (.int .i64 n) := blk_cell px 15
          have p_16 : wr.cell? ⟨pb, 16, none⟩ = some (.int .i64 k0) := blk_cell px 16
          have bl := blk_lt px
          have HPX := Lib.hid px
          clear px AFj hLL hn hn1 hk0 hk1 hX hY hNb hnv
          go_wp2_with fail
          go_cut [7, 8] from 32 to 43 (fun xv yv wx => xv = .int .i64 X ∧ yv = .int .i64 Y ∧ wr.grownBy wx none)
          case first =>
            go_region_with (go_at_call 67; refine (KPl.out _).mono ?_; intro e u1 hh; obtain ⟨rfl, g1⟩ := hh; have HG1 := Lib.hid (show wr.grownBy u1 none from by first | exact g1 | exact gb_trans (gb_drew _ _) g1); clear g1)
            all_goals
              go_wp2_with fail
              go_meet
              case rel => exact ⟨rfl, rfl, by first | exact HG1.out | exact gb_trans HG1.out (gb_drew _ _)⟩
          case rest =>
            obtain ⟨rfl, rfl, gc⟩ := hcut
            have HL1 := Lib.hid (HL.out.grown HB.out.mw HP.out gc)
            have HA1 := Lib.hid (show AF W pb c l r cb g hb nm x2 fs cnt en gw gh d a mp lf tp pv P C N LL wc from by rw [← HLL.out]; exact HL1.out.af)
            have px : PxB pb c nm x2 fs cnt en gw gh d a mp lf tp pv r n k0 wc := by have := HA1.out.px; rw [HN.out.1, HN.out.2.2.1] at this; exact this
            have HPX1 := Lib.hid px
            clear p_0 p_1 p_2 p_3 p_4 p_5 p_6 p_7 p_8 p_9 p_10 p_11 p_12 p_13 p_14 p_15 p_16 gc HL HAF HPX
            have p_0 : wc.cell? ⟨pb, 0, none⟩ = some (.pointer (some ⟨c, 0, none⟩)) := blk_cell px 0
            have p_1 : wc.cell? ⟨pb, 1, none⟩ = some (.int .i64 nm) := blk_cell px 1
            have p_2 : wc.cell? ⟨pb, 2, none⟩ = some (.bool mp) := blk_cell px 2
            have p_3 : wc.cell? ⟨pb, 3, none⟩ = some (.int .i64 x2) := blk_cell px 3
            have p_4 : wc.cell? ⟨pb, 4, none⟩ = some (.int .i64 fs) := blk_cell px 4
            have p_5 : wc.cell? ⟨pb, 5, none⟩ = some (.int .i64 cnt) := blk_cell px 5
            have p_6 : wc.cell? ⟨pb, 6, none⟩ = some (.int .i64 en) := blk_cell px 6
            have p_7 : wc.cell? ⟨pb, 7, none⟩ = some (.int .i64 gw) := blk_cell px 7
            have p_8 : wc.cell? ⟨pb, 8, none⟩ = some (.int .i64 gh) := blk_cell px 8
            have p_9 : wc.cell? ⟨pb, 9, none⟩ = some (.int .i64 d) := blk_cell px 9
            have p_10 : wc.cell? ⟨pb, 10, none⟩ = some (.int .i64 a) := blk_cell px 10
            have p_11 : wc.cell? ⟨pb, 11, none⟩ = some (.bool lf) := blk_cell px 11
            have p_12 : wc.cell? ⟨pb, 12, none⟩ = some (.bool tp) := blk_cell px 12
            have p_13 : wc.cell? ⟨pb, 13, none⟩ = some (pv) := blk_cell px 13
            have p_14 : wc.cell? ⟨pb, 14, none⟩ = some (.pointer (some ⟨r, 0, none⟩)) := blk_cell px 14
            have p_15 : wc.cell? ⟨pb, 15, none⟩ = some (.int .i64 n) := blk_cell px 15
            have p_16 : wc.cell? ⟨pb, 16, none⟩ = some (.int .i64 k0) := blk_cell px 16
            have co := HL1.out.col
            have x_0 : wc.cell? ⟨A, 0, none⟩ = some (.int .u8 (C z.a 0)) := blk_cell co 0
            have x_1 : wc.cell? ⟨A, 1, none⟩ = some (.int .u8 (C z.a 1)) := blk_cell co 1
            have x_2 : wc.cell? ⟨A, 2, none⟩ = some (.int .u8 (C z.a 2)) := blk_cell co 2
            have x_3 : wc.cell? ⟨A, 3, none⟩ = some (.int .u8 (C z.a 3)) := blk_cell co 3
            have bl := blk_lt px
            have cl := blk_lt co
            clear px co
            obtain ⟨v1, rfl⟩ : ∃ v, v = wc := ⟨_, rfl⟩
            by_cases hq : (stp x (z.n + 1 + j)).st + 1 ≤ (stp x (z.n + 1 + j)).s
            · have KS0 := fun u (ho : Ro r l cb g gw gh (rsl (plI gw gh lf tp) (fB C) LL N) u) (hl : Led l (stp x (z.n + 1 + j)).ls u) => set_col r l cb g gw gh N lf tp LL C z.a (stp x (z.n + 1 + j)) u (HC.out z.a) HNN.out.1 HNN.out.2.1 HNN.out.2.2.1 HNN.out.2.2.2 (by rw [HN.out.1]; exact hnN) ho hl HL1.out.rd.ok HZ.out.1 hq
              simp only [HN.out.1, HN.out.2.2.2.2.1, HN.out.2.2.2.2.2, stp_stp] at KS0
              unfold colV at KS0
              have KS := Lib.hid KS0
              have HQ2 := Lib.hid hq
              clear KS0 hq
              go_wp2_with fail
              go_cut [52] from 44 to 51 (fun sv wx => sv = .bool false ∧ (Ro r l cb g gw gh (rsl (plI gw gh lf tp) (fB C) (LL ++ [z.a]) N) wx ∧ Led l (stp x (z.n + 1 + j + 1)).ls wx) ∧ Tn v1 wx [l, g])
              case first =>
                go_region_with (go_at_call 133; refine (KS.out _ (by first | exact HA1.out.ro | exact HA1.out.ro.grown (gb_drew _ none) (by simp) (by simp) (by simp)) (by first | exact HL1.out.rd.led | exact led_dr HL1.out.rd.led)).mono ?_; intro e u2 hh; obtain ⟨rfl, hs2, t2⟩ := hh; have HT2 := Lib.hid (show Tn v1 u2 [l, g] from by first | exact t2 | exact (Tn.drew _ _).trans t2); have HS2 := Lib.hid hs2; clear t2 hs2)
                all_goals
                  go_wp2_with fail
                  go_meet
                  case rel => exact ⟨rfl, HS2.out, HT2.out⟩
              case rest =>
                obtain ⟨rfl, ⟨ro2, led2⟩, t2⟩ := hcut
                clear p_0 p_1 p_2 p_3 p_4 p_5 p_6 p_7 p_8 p_9 p_10 p_11 p_12 p_13 p_14 p_15 p_16 x_0 x_1 x_2 x_3 bl cl
                have px2 : PxB pb c nm x2 fs cnt en gw gh d a mp lf tp pv r n k0 wc := (t2.block _ (blk_lt HPX1.out) (by have := HB.out.pl; have := HB.out.pg; simp; omega)).trans HPX1.out
                have p_0 : wc.cell? ⟨pb, 0, none⟩ = some (.pointer (some ⟨c, 0, none⟩)) := blk_cell px2 0
                have p_15 : wc.cell? ⟨pb, 15, none⟩ = some (.int .i64 n) := blk_cell px2 15
                have p_16 : wc.cell? ⟨pb, 16, none⟩ = some (.int .i64 k0) := blk_cell px2 16
                have pf15 := blk_free px2 15
                have pf16 := blk_free px2 16
                have bl := blk_lt px2
                have HLN := Lib.hid (HL1.out.next HB.out HP.out HHB.out.symm t2 (by rw [HLL.out]; exact ro2) led2 (by have h := stp1_ok' HL1.out.rd.ok HZ.out.1 HQ2.out; rw [stp_stp] at h; exact h) n1 k1 (by rw [HLL.out, HN.out.1]; exact HN.out.2.1) HN.out.2.2.2.1)
                clear ro2 led2 t2 px2
                go_wp2
                go_roundg (m - (j + 1))
                case measure => omega
                case rel => exact ⟨j + 1, by omega, rfl, by go_num, HLN.out⟩
            · have hq' : (stp x (z.n + 1 + j)).s < (stp x (z.n + 1 + j)).st + 1 := by omega
              have KS0 := fun u (ho : Ro r l cb g gw gh (rsl (plI gw gh lf tp) (fB C) LL N) u) (hl : Led l (stp x (z.n + 1 + j)).ls u) => set_col_no r l cb g gw gh N lf tp LL C _ z.a (stp x (z.n + 1 + j)) u HNN.out.1 HNN.out.2.1 HNN.out.2.2.1 HNN.out.2.2.2 (by rw [HN.out.1]; exact hnN) ho hl HL1.out.rd.ok HZ.out.1 hq'
              simp only [HN.out.1, HN.out.2.2.2.2.1, HN.out.2.2.2.2.2] at KS0
              unfold colV at KS0
              have KS := Lib.hid KS0
              have HQ2 := Lib.hid hq'
              clear KS0 hq hq'
              go_wp2_with fail
              go_cut [52] from 44 to 51 (fun sv wx => sv = .bool true ∧ (Ro r l cb g gw gh (rsl (plI gw gh lf tp) (fB C) LL N) wx ∧ Led l (spent (stp x (z.n + 1 + j))).ls wx) ∧ Tn v1 wx [l, g])
              case first =>
                go_region_with (go_at_call 133; refine (KS.out _ (by first | exact HA1.out.ro | exact HA1.out.ro.grown (gb_drew _ none) (by simp) (by simp) (by simp)) (by first | exact HL1.out.rd.led | exact led_dr HL1.out.rd.led)).mono ?_; intro e u2 hh; obtain ⟨rfl, hs2, t2⟩ := hh; have HT2 := Lib.hid (show Tn v1 u2 [l, g] from by first | exact t2 | exact (Tn.drew _ _).trans t2); have HS2 := Lib.hid hs2; clear t2 hs2)
                all_goals
                  go_wp2_with fail
                  go_meet
                  case rel => exact ⟨rfl, HS2.out, HT2.out⟩
              case rest =>
                obtain ⟨rfl, ⟨ro2, led2⟩, t2⟩ := hcut
                clear p_0 p_1 p_2 p_3 p_4 p_5 p_6 p_7 p_8 p_9 p_10 p_11 p_12 p_13 p_14 p_15 p_16 x_0 x_1 x_2 x_3 bl cl
                have q1 := HB.out.pl
                have q2 := HB.out.pg
                have q3 := HB.out.gc
                have q4 := HB.out.cw
                have q5 := HB.out.lw
                have q6 := HB.out.gw
                have q7 := HHB.out
                have q8 := HB.out.mw
                have hcl := HL1.out.rd.so.bl
                have px2 : PxB pb c nm x2 fs cnt en gw gh d a mp lf tp pv r n k0 wc := (t2.block _ (blk_lt HPX1.out) (by simp; omega)).trans HPX1.out
                have HR2 := Lib.hid (show Rd c l s (z.a + sz) (spent x) wc from ⟨HL1.out.rd.so.turned t2 (by simp; omega), led2, by have h := spent_ok' HL1.out.rd.ok HZ.out.1 HQ2.out; exact h⟩)
                have HF2 := Lib.hid (HL1.out.af.fl.turned t2 (by simp; omega))
                have HT2 := Lib.hid (show Tn W wc [g, pb, c, l] from HL1.out.af.tn.trans (t2.mono (by intro i hi; simp at hi ⊢; omega)))
                have HP2 := Lib.hid (HP.out _ _ HL1.out.af.pp (fun i hi hn => t2.block i (Nat.lt_of_lt_of_le hi (Nat.le_trans q8 HL1.out.af.tn.size)) (by simp at hn ⊢; omega)))
                have HO2 := Lib.hid ro2
                have KA := Lib.hid (fun u (hu : Rd c l s (z.a + sz) (spent x) u) => Sr.at_calls c l s (z.a + sz) 0 s.size u hu.so)
                have p_0 : wc.cell? ⟨pb, 0, none⟩ = some (.pointer (some ⟨c, 0, none⟩)) := blk_cell px2 0
                have p_15 : wc.cell? ⟨pb, 15, none⟩ = some (.int .i64 n) := blk_cell px2 15
                have p_16 : wc.cell? ⟨pb, 16, none⟩ = some (.int .i64 k0) := blk_cell px2 16
                have bl := blk_lt px2
                clear ro2 led2 t2 px2 q1 q2 q3 q4 q5 q6 q8
                go_wp2_with fail
                refine (KA.out _ HR2.out).mono ?_
                rintro e u3 ⟨rfl, rfl⟩
                go_wp2_with fail
                refine (gfault_calls _ _ _).mono ?_
                rintro e u4 ⟨rfl, g4⟩
                unfold flT
                have f4 := HF2.out.turned (Tn.gb g4 (S := []) (by simp)) (by simp)
                have r0 := f4.c0
                have r1 := f4.c1
                have r2 := f4.c2
                have rf0 := f4.free 0
                have rf1 := f4.free 1
                have rf2 := f4.free 2
                have rl := f4.lt
                have HG4 := Lib.hid g4
                clear p_0 p_15 p_16 bl g4 f4
                go_wp2
                have t3 : Tn wc (((u4.setCell ⟨hb, 0, none⟩ (.int .i64 4)).setCell ⟨hb, 1, none⟩ (.int .i64 2)).setCell ⟨hb, 2, none⟩ (.int .i64 ((z.a + sz : Nat) : Int))) [hb] := (((Tn.gb HG4.out (by simp)).st (by simp)).st (by simp)).st (by simp)
                have c1 := HB.out.cw
                have c2 := HB.out.lw
                have c3 := HB.out.rw
                have c4 := HB.out.bw
                have c5 := HB.out.gw
                have c6 := HB.out.mw
                have c7 := HR2.out.so.pt
                have c8 := HZ.out.2.2.2
                refine bodyPost_ret (v := flT 4 ((z.a + sz : Nat) : Int)) (by unfold flT; simp only [results, Tryz.results104]; go_simp) rfl ?_
                rw [← HQ.out]
                refine ⟨HT2.out.over t3 (by intro i hi; simp at hi; left; omega), HP.out _ _ HP2.out (fun i hi _ => t3.block i (Nat.lt_of_lt_of_le hi (Nat.le_trans c6 HT2.out.size)) (by simp; omega)), .inr ⟨4, _, z.a + sz, spent x, _, ⟨c7, .inr ⟨?_, rfl, rfl, rfl⟩⟩, rfl, HR2.out.own t3 (by simp; omega) (by simp; omega), HO2.out.turned (tB t3) (by simp; omega) (by simp; omega) (by simp; omega)⟩⟩
                have hkd := HE.out.1
                rw [pix_yes HZ.out.2.1 hkd]
                show x.s < x.st + ((z.n + 1 + m : Nat) : Int)
                have h : x.s < x.st + ((z.n + 1 + j : Nat) : Int) + 1 := HQ2.out
                omega
        · obtain rfl : j = m := by omega
          have d1 : ¬ (j : Int) < (j : Int) := by omega
          have fl := HL.out.af.fl
          have r0 := fl.c0
          have r1 := fl.c1
          have r2 := fl.c2
          have rf0 := fl.free 0
          have rf1 := fl.free 1
          have rf2 := fl.free 2
          have rl := fl.lt
          clear fl
          go_wp2
          have t3 : Tn wr (((wr.setCell ⟨hb, 0, none⟩ (.int .i64 0)).setCell ⟨hb, 1, none⟩ (.int .i64 0)).setCell ⟨hb, 2, none⟩ (.int .i64 0)) [hb] := (((Tn.refl wr [hb]).st (by simp)).st (by simp)).st (by simp)
          refine bodyPost_ret (v := okT) (by unfold okT; simp only [results, Tryz.results104]; go_simp) rfl ?_
          rw [← HQ.out]
          obtain ⟨q1, q2, q3, q4⟩ := HL.out.af.res HB.out HP.out HHB.out.symm t3
          have c1 := HB.out.cw
          have c2 := HB.out.lw
          have c7 := HHB.out
          have hkd := HE.out.1
          rw [pix_yes HZ.out.2.1 hkd]
          exact ⟨q1, q2, .inl ⟨rfl, rfl, ⟨HL.out.rd.own t3 (by simp; omega) (by simp; omega), q3, q4, q2, q1⟩⟩⟩
    · have hk := E.kne
      have hk1 : (k != 0) = true := by rw [bne_iff_ne]; exact hk
      have hk2 : (k == 0) = false := by rw [beq_eq_false_iff_ne]; exact hk
      have HBX := Lib.hid bx
      have HR := Lib.hid R
      have HE := Lib.hid E
      clear bx R E hk Q
      go_wp2
      have t3 : Tn wc (((wc.setCell ⟨hb, 0, none⟩ (.int .i64 k)).setCell ⟨hb, 1, none⟩ (.int .i64 2)).setCell ⟨hb, 2, none⟩ (.int .i64 b')) [hb] := (((Tn.refl wc [hb]).st (by simp)).st (by simp)).st (by simp)
      refine bodyPost_ret (v := flT k b') (by unfold flT; simp only [results, Tryz.results104]; go_simp) rfl ?_
      rw [← HQ.out]
      obtain ⟨q1, q2, q3, _⟩ := HBX.out.af.res HB.out HP.out HHB.out.symm t3
      have hcw := HB.out.cw
      have hlw := HB.out.lw
      have hhb := HHB.out
      exact ⟨q1, q2, .inr ⟨k, b', q, y, _, eb_pix HZ.out.2.1 HE.out, rfl, HR.out.own t3 (by simp; omega) (by simp; omega), q3⟩⟩

end Go.Proofs.YtnieeckdldpebaaGreat.Tr
