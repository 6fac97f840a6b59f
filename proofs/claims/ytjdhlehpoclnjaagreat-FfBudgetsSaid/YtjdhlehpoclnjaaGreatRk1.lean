/- A raster of which pixels are set one behind the other; what stands behind a decoder. -/
import Derived.Test.YtjdhlehpoclnjaaGreatRsB
import Derived.Test.YtjdhlehpoclnjaaGreatSh4
namespace Go.Proofs.YtjdhlehpoclnjaaGreat.Sh
open Go.ChangeShapes Go.WideShapes Go.ChangeAt Go.RowKit
open Go.Proofs.YtjdhlehpoclnjaaGreat.Le Go.Proofs.YtjdhlehpoclnjaaGreat.Tk Go.Proofs.YtjdhlehpoclnjaaGreat.Sr Go.Proofs.YtjdhlehpoclnjaaGreat.Ra
set_option linter.unusedVariables false

def colV (C : Nat → Nat → Int) (o : Nat) : Value := .agg #[.int .u8 (C o 0), .int .u8 (C o 1), .int .u8 (C o 2), .int .u8 (C o 3)]
/-- A colour's four bytes. -/
def fB (C : Nat → Nat → Int) (o : Nat) : ByteArray := Ra.four (UInt8.ofNat (C o 0).toNat) (UInt8.ofNat (C o 1).toNat) (UInt8.ofNat (C o 2).toNat) (UInt8.ofNat (C o 3).toNat)
/-- The bytes of N pixels, of which the first k are set. -/
def rk (C : Nat → Nat → Int) (N : Nat) : Nat → ByteArray
  | 0 => Bu.rep 0 (4 * N)
  | k + 1 => Bu.putS (rk C N k) (fB C k) (4 * k)
theorem nat_u8 {v : Int} (h : 0 ≤ v ∧ v ≤ 255) : ((UInt8.ofNat v.toNat).toNat : Int) = v := by
  rw [UInt8.toNat_ofNat']
  omega
theorem fB_size (C : Nat → Nat → Int) (o : Nat) : (fB C o).size = 4 := rfl
theorem rk_size (C : Nat → Nat → Int) (N : Nat) : ∀ k, k ≤ N → (rk C N k).size = 4 * N
  | 0, _ => by show (Bu.rep 0 (4 * N)).size = _; rw [Bu.rep_size]
  | k + 1, h => by
    have h1 := rk_size C N k (by omega)
    show (Bu.putS _ _ _).size = _
    rw [Bu.putS_size _ _ _ (by rw [fB_size, h1]; omega), h1]

/-- A pixel is set, its step let. -/
theorem set_at (r l cb g w h N k x y : Nat) (C : Nat → Nat → Int) (q : St) (u : World) (hC : ∀ j, 0 ≤ C k j ∧ C k j ≤ 255) (hx : x < w) (hy : y < h) (hw : w ≤ 16384) (hh : h ≤ 16384) (hk : y * w + x = k)
    (hro : Ro r l cb g w h (rk C N k) u) (hl : Led l q.ls u) (ok : q.Ok) (hr : q.r = 0) (hq : q.st + 1 ≤ q.s) :
    Calls Tryz.prog 90 #[.pointer (some ⟨r, 0, none⟩), .int .i64 x, .int .i64 y, colV C k] u
      fun e u' => e = .returned (.bool true) ∧ (Ro r l cb g w h (rk C N (k + 1)) u' ∧ Led l (stp q 1).ls u') ∧ Tn u u' [l, g] := by
  have K := set_px r l cb g w h x y k (rk C N k) q (UInt8.ofNat (C k 0).toNat) (UInt8.ofNat (C k 1).toNat) (UInt8.ofNat (C k 2).toNat) (UInt8.ofNat (C k 3).toNat) u hro hl ok (by rw [work_one hr hq]) hx hy hw hh hk
  rw [nat_u8 (hC 0), nat_u8 (hC 1), nat_u8 (hC 2), nat_u8 (hC 3), work_one hr hq] at K
  exact K.mono (fun e w' ⟨h1, h2, h3⟩ => ⟨h1, h2, tnB h3⟩)
/-- Its step is refused. -/
theorem set_no (r l cb g w h k x y : Nat) (C : Nat → Nat → Int) (R : ByteArray) (q : St) (u : World) (hx : x < w) (hy : y < h) (hw : w ≤ 16384) (hh : h ≤ 16384) (hk : y * w + x = k)
    (hro : Ro r l cb g w h R u) (hl : Led l q.ls u) (ok : q.Ok) (hr : q.r = 0) (hq : q.s < q.st + 1) :
    Calls Tryz.prog 90 #[.pointer (some ⟨r, 0, none⟩), .int .i64 x, .int .i64 y, colV C k] u
      fun e u' => e = .returned (.bool false) ∧ (Ro r l cb g w h R u' ∧ Led l (spent q).ls u') ∧ Tn u u' [l, g] := by
  have K := set_spent r l cb g w h x y k R q (C k 0) (C k 1) (C k 2) (C k 3) u hro hl ok (by rw [work_none ok hr hq]) hx hy hw hh hk
  rw [work_none ok hr hq] at K
  exact K

theorem width_calls (r l cb g a b : Nat) (R : ByteArray) (u : World) (h : Ro r l cb g a b R u) : Calls Tryz.prog 72 #[.pointer (some ⟨r, 0, none⟩)] u fun e w' => e = .returned (.int .i64 a) ∧ u = w' := by
  have c1 : u.cell? ⟨r, 1, none⟩ = some (.int .i64 a) := blk_cell h.blk 1
  clear h
  go_enter Tryz.func72, Tryz.ntmps72
  go_wp2
  go_ret
  exact ⟨rfl, rfl⟩
theorem height_calls (r l cb g a b : Nat) (R : ByteArray) (u : World) (h : Ro r l cb g a b R u) : Calls Tryz.prog 73 #[.pointer (some ⟨r, 0, none⟩)] u fun e w' => e = .returned (.int .i64 b) ∧ u = w' := by
  have c2 : u.cell? ⟨r, 2, none⟩ = some (.int .i64 b) := blk_cell h.blk 2
  clear h
  go_enter Tryz.func73, Tryz.ntmps73
  go_wp2
  go_ret
  exact ⟨rfl, rfl⟩

def flF (F k a : Int) : Value := .agg #[.int .i64 k, .int .i64 F, .int .i64 a]
def okT : Value := .agg #[.int .i64 0, .int .i64 0, .int .i64 0]
theorem ro_t {r l c g a b : Nat} {s : ByteArray} {w w' : World} {S : List Nat} (h : Ro r l c g a b s w) (t : Tn w w' S) (h1 : r ∉ S) (h2 : c ∉ S) (h3 : g ∉ S) : Ro r l c g a b s w' := h.turned ⟨t.os, t.tape, t.output, t.size, t.block⟩ h1 h2 h3
/-- The blocks of a filling. -/
structure FB (W : World) (c l r cb g : Nat) : Prop where
  pc : c < W.heap.size
  pl : l < W.heap.size
  pr : r < W.heap.size
  pb : cb < W.heap.size
  pg : g < W.heap.size
  ncl : c ≠ l
  ncr : c ≠ r
  ncb : c ≠ cb
  ncg : c ≠ g
  nlr : l ≠ r
  nlb : l ≠ cb
  nlg : l ≠ g
  nrb : r ≠ cb
  nrg : r ≠ g
  nbg : cb ≠ g
/-- Behind a filling of n pixels: as it would with steps enough, N of them at most; or where they ran out. -/
def FO (F : Int) (W : World) (c l r cb g gw gh : Nat) (C : Nat → Nat → Int) (s : ByteArray) (x : St) (f p N n : Nat) (e : Ending) (w' : World) : Prop :=
  ∃ (q : Nat) (y : St), Rd c l s q y w' ∧ Tn W w' [c, l, g] ∧ Lm x y ∧ y.by_ = x.by_ ∧ (∃ R, Ro r l cb g gw gh R w') ∧
    ((f = 0 ∧ e = .returned okT ∧ y.r = 0 ∧ Ro r l cb g gw gh (rk C n n) w') ∨
     (f ≠ 0 ∧ e = .returned (flF F f p) ∧ y.r = 0) ∨
     (x.s < x.st + (N : Int) ∧ (∃ j : Nat, j ≤ s.size ∧ e = .returned (flF F 4 j)) ∧ y.r ≠ 0))
/-- Behind Decode. -/
def DT (F : Int) (W : World) (s : ByteArray) (c l : Nat) (x : St) (f p w h N : Nat) (A : ByteArray) (e : Ending) (w' : World) : Prop :=
  ∃ (q : Nat) (y : St), Rd c l s q y w' ∧ Tn W w' [c, l] ∧ Lm x y ∧
    ((f = 0 ∧ (∃ r cb g, e = .returned (.tuple #[.pointer (some ⟨r, 0, none⟩), okT]) ∧ Ro r l cb g w h A w' ∧ W.heap.size ≤ r ∧ W.heap.size ≤ cb ∧ W.heap.size ≤ g) ∧ y.by_ = x.by_ + ((4 * (w * h) : Nat) : Int) ∧ y.r = 0 ∧ (w : Int) ≤ x.w ∧ (h : Int) ≤ x.h) ∨
     (f ≠ 0 ∧ e = .returned (.tuple #[.pointer none, flF F f p]) ∧ y.r = 0 ∧ y.by_ = x.by_) ∨
     ((x.w < w ∨ x.h < h ∨ x.b < x.by_ + ((4 * (w * h) : Nat) : Int) ∨ x.s < x.st + (N : Int)) ∧ (∃ j : Nat, j ≤ s.size ∧ e = .returned (.tuple #[.pointer none, flF F 4 j])) ∧ y.r ≠ 0 ∧ y.by_ = x.by_))
/-- What a decoder does with a text, by any ledger: the fault f at p (f 0: none), sides w and h, N steps at most, the raster's bytes A. -/
structure TV where
  f : Nat
  p : Nat
  w : Nat
  h : Nat
  N : Nat
  A : ByteArray

/-- Bytes are taken. -/
def tkn (x : St) (n : Nat) : St := { x with by_ := x.by_ + n, pk := up x.pk (x.by_ + n) }
theorem take_ok {x : St} (hr : x.r = 0) (n : Nat) (h : x.by_ + (n : Int) ≤ x.b) : x.take (n : Int) = (tkn x n, true) := by
  unfold St.take
  rw [if_neg (by simpa using hr), if_neg (by omega)]
  rfl
theorem take_nok {x : St} (hr : x.r = 0) (n : Nat) (h : x.b < x.by_ + (n : Int)) : (x.take (n : Int)).2 = false ∧ Lm x (x.take (n : Int)).1 ∧ (x.take (n : Int)).1.r ≠ 0 ∧ (x.take (n : Int)).1.by_ = x.by_ := by
  unfold St.take
  rw [if_neg (fun h => h hr), if_pos (by omega)]
  unfold St.refuse
  rw [if_pos hr]
  exact ⟨rfl, ⟨rfl, rfl, rfl, rfl⟩, by show (2 : Int) ≠ 0; decide, rfl⟩
theorem sides_okd {x : St} {a b : Int} (hr : x.r = 0) (a1 : 1 ≤ a) (a2 : a ≤ x.w) (b1 : 1 ≤ b) (b2 : b ≤ x.h) : x.sides a b = (x, true) := by
  unfold St.sides
  rw [if_neg (fun h => h hr), if_neg (by omega), if_neg (by omega)]
theorem sides_nok {x : St} {a b : Int} (hr : x.r = 0) (a1 : 1 ≤ a) (b1 : 1 ≤ b) (hn : x.w < a ∨ x.h < b) : (x.sides a b).2 = false ∧ Lm x (x.sides a b).1 ∧ (x.sides a b).1.r ≠ 0 ∧ (x.sides a b).1.by_ = x.by_ := by
  unfold St.sides
  rw [if_neg (fun h => h hr)]
  by_cases h1 : a < 1 ∨ x.w < a
  · rw [if_pos h1]
    unfold St.refuse
    rw [if_pos hr]
    exact ⟨rfl, ⟨rfl, rfl, rfl, rfl⟩, by show (1 : Int) ≠ 0; decide, rfl⟩
  · rw [if_neg h1, if_pos (by omega)]
    unfold St.refuse
    rw [if_pos hr]
    exact ⟨rfl, ⟨rfl, rfl, rfl, rfl⟩, by show (1 : Int) ≠ 0; decide, rfl⟩
theorem new_nod (l : Nat) (x : St) (a b : Nat) (w : World) (h : Led l x.ls w) (ok : x.Ok) (hr : x.r = 0) (a0 : 1 ≤ a) (a1 : a ≤ 16384) (b0 : 1 ≤ b) (b1 : b ≤ 16384) (hn : x.w < a ∨ x.h < b ∨ x.b < x.by_ + ((4 * (a * b) : Nat) : Int)) :
    Calls Tryz.prog 40 #[.pointer (some ⟨l, 0, none⟩), .int .i64 a, .int .i64 b] w
      fun e w' => e = .returned (.tuple #[.pointer none, .int .i64 4]) ∧ ∃ y, Led l y.ls w' ∧ y.Ok ∧ Lm x y ∧ y.r ≠ 0 ∧ y.by_ = x.by_ ∧ w.grownBy w' (some l) := by
  by_cases h1 : x.w < a ∨ x.h < b
  · obtain ⟨e1, e2, e3, e4⟩ := sides_nok (x := x) (a := a) (b := b) hr (by omega) (by omega) h1
    exact (Ra.new_sides l x a b w h a0 a1 b0 b1 e1).mono fun e w' ⟨he, hL, hg⟩ => ⟨he, _, hL, ok.sides _ _, e2, e3, e4, hg⟩
  · obtain ⟨e1, e2, e3, e4⟩ := take_nok hr (4 * (a * b)) (by omega)
    exact (Ra.new_spent l x a b w h ok a0 a1 b0 b1 (sides_okd hr (by omega) (by omega) (by omega) (by omega)) e1).mono fun e w' ⟨he, hL, hg⟩ => ⟨he, _, hL, ok.take _, e2, e3, e4, hg⟩
theorem ledger_rd (c l : Nat) (s : ByteArray) (p : Nat) (x : St) (w : World) (h : Rd c l s p x w) :
    Calls Tryz.prog 41 #[.pointer (some ⟨c, 0, none⟩)] w fun e w' => e = .returned (.pointer (some ⟨l, 0, none⟩)) ∧ w = w' := Sr.ledger_calls c l s p 0 s.size w h.so
theorem give_d {x x1 y z : St} {n : Nat} (L : Lm x x1) (hb : x1.by_ = x.by_ + ((n : Nat) : Int)) (h0 : 0 ≤ x.by_) (L2 : Lm x1 y) (hy : y.by_ = x1.by_) : Lm x (y.give ((n : Nat) : Int)).1 ∧ (y.give ((n : Nat) : Int)).1.by_ = x.by_ ∧ (y.give ((n : Nat) : Int)).1.r = y.r := by
  have h2 := L.trans L2
  unfold St.give
  rw [if_neg (by omega)]
  exact ⟨⟨h2.w, h2.h, h2.b, h2.s⟩, by show y.by_ - _ = x.by_; omega, rfl⟩


end Go.Proofs.YtjdhlehpoclnjaaGreat.Sh
