/- Texts of one kind, one behind the other: Tr3. -/
import Derived.Test.YtnieeckdldpebaaGreatG33
import Derived.Test.YtnieeckdldpebaaGreatG37
/- Layer 18: a raster of which pixels are set one behind the other; a pixel is set. -/
namespace Go.Proofs.YtnieeckdldpebaaGreat.Tr
open Go.ChangeShapes Go.WideShapes Go.ChangeAt Go.RowKit
open Go.Proofs.YtnieeckdldpebaaGreat.Sc Go.Proofs.YtnieeckdldpebaaGreat.Le Go.Proofs.YtnieeckdldpebaaGreat.Pa Go.Proofs.YtnieeckdldpebaaGreat.Tk Go.Proofs.YtnieeckdldpebaaGreat.Tg Go.Proofs.YtnieeckdldpebaaGreat.Tp Go.Proofs.YtnieeckdldpebaaGreat.Ra
set_option linter.unusedVariables false

/-- A colour's four bytes. -/
def fB (C : Nat → Nat → Int) (o : Nat) : ByteArray := Ra.four (UInt8.ofNat (C o 0).toNat) (UInt8.ofNat (C o 1).toNat) (UInt8.ofNat (C o 2).toNat) (UInt8.ofNat (C o 3).toNat)
/-- The bytes of N pixels, of which the first ones of l are set, each where it stands. -/
def rsk (pl : Nat → Nat) (F : Nat → ByteArray) (l : List Nat) (N : Nat) : Nat → ByteArray
  | 0 => Bu.rep 0 (4 * N)
  | k + 1 => Bu.putS (rsk pl F l N k) (F (l.getD k 0)) (4 * pl k)
def rsl (pl : Nat → Nat) (F : Nat → ByteArray) (l : List Nat) (N : Nat) : ByteArray := rsk pl F l N l.length
theorem rsk_app (pl : Nat → Nat) (F : Nat → ByteArray) (l m : List Nat) (N : Nat) : ∀ k, k ≤ l.length → rsk pl F (l ++ m) N k = rsk pl F l N k
  | 0, _ => rfl
  | k + 1, h => by
    show Bu.putS (rsk pl F (l ++ m) N k) (F ((l ++ m).getD k 0)) _ = Bu.putS (rsk pl F l N k) (F (l.getD k 0)) _
    rw [rsk_app pl F l m N k (by omega)]
    congr 2
    rw [List.getD_eq_getElem?_getD, List.getD_eq_getElem?_getD, List.getElem?_append_left (by omega)]
theorem rsl_snoc (pl : Nat → Nat) (F : Nat → ByteArray) (l : List Nat) (o N : Nat) : rsl pl F (l ++ [o]) N = Bu.putS (rsl pl F l N) (F o) (4 * pl l.length) := by
  unfold rsl
  rw [List.length_append]
  show Bu.putS (rsk pl F (l ++ [o]) N l.length) (F ((l ++ [o]).getD l.length 0)) _ = _
  rw [rsk_app pl F l [o] N l.length (Nat.le_refl _), List.getD_eq_getElem?_getD, List.getElem?_append_right (Nat.le_refl _), Nat.sub_self]
  rfl
theorem nat_u8 {v : Int} (h : 0 ≤ v ∧ v ≤ 255) : ((UInt8.ofNat v.toNat).toNat : Int) = v := by
  rw [UInt8.toNat_ofNat']
  omega

theorem stp1_ok' {x : St} (h : x.Ok) (hr : x.r = 0) (hq : x.st + 1 ≤ x.s) : (stp x 1).Ok := by
  have := h.work 1
  rwa [work_one hr hq] at this
theorem spent_ok' {x : St} (h : x.Ok) (hr : x.r = 0) (hq : x.s < x.st + 1) : (spent x).Ok := by
  have := h.work 1
  rwa [work_none h hr hq] at this

/-- A pixel is set, its step let. -/
theorem set_col (r l cb g w h N : Nat) (lf tp : Bool) (L : List Nat) (C : Nat → Nat → Int) (o : Nat) (q : St) (u : World) (hC : ∀ j, 0 ≤ C o j ∧ C o j ≤ 255) (hN : w * h = N) (h1 : 1 ≤ w) (hw : w ≤ 16384) (hh : h ≤ 16384) (hL : L.length < N)
    (hro : Ro r l cb g w h (rsl (plI w h lf tp) (fB C) L N) u) (hl : Led l q.ls u) (ok : q.Ok) (hr : q.r = 0) (hq : q.st + 1 ≤ q.s) :
    Calls Tryz.prog 133 #[.pointer (some ⟨r, 0, none⟩), .int .i64 (plX w lf L.length), .int .i64 (plY w h tp L.length), colV C o] u
      fun e u' => e = .returned (.bool true) ∧ (Ro r l cb g w h (rsl (plI w h lf tp) (fB C) (L ++ [o]) N) u' ∧ Led l (stp q 1).ls u') ∧ Tn u u' [l, g] := by
  have hk : L.length < w * h := by omega
  have K := set_px r l cb g w h (plX w lf L.length) (plY w h tp L.length) (plI w h lf tp L.length) (rsl (plI w h lf tp) (fB C) L N) q (UInt8.ofNat (C o 0).toNat) (UInt8.ofNat (C o 1).toNat) (UInt8.ofNat (C o 2).toNat) (UInt8.ofNat (C o 3).toNat) u hro hl ok (by rw [work_one hr hq]) (plX_lt h1) (plY_lt hk) hw hh rfl
  rw [nat_u8 (hC 0), nat_u8 (hC 1), nat_u8 (hC 2), nat_u8 (hC 3), work_one hr hq] at K
  rw [rsl_snoc]
  exact K.mono (fun e w' ⟨h1, h2, h3⟩ => ⟨h1, h2, tnB h3⟩)
/-- Its step is refused. -/
theorem set_col_no (r l cb g w h N : Nat) (lf tp : Bool) (L : List Nat) (C : Nat → Nat → Int) (R : ByteArray) (o : Nat) (q : St) (u : World) (hN : w * h = N) (h1 : 1 ≤ w) (hw : w ≤ 16384) (hh : h ≤ 16384) (hL : L.length < N)
    (hro : Ro r l cb g w h R u) (hl : Led l q.ls u) (ok : q.Ok) (hr : q.r = 0) (hq : q.s < q.st + 1) :
    Calls Tryz.prog 133 #[.pointer (some ⟨r, 0, none⟩), .int .i64 (plX w lf L.length), .int .i64 (plY w h tp L.length), colV C o] u
      fun e u' => e = .returned (.bool false) ∧ (Ro r l cb g w h R u' ∧ Led l (spent q).ls u') ∧ Tn u u' [l, g] := by
  have hk : L.length < w * h := by omega
  have K := set_spent r l cb g w h (plX w lf L.length) (plY w h tp L.length) (plI w h lf tp L.length) R q (C o 0) (C o 1) (C o 2) (C o 3) u hro hl ok (by rw [work_none ok hr hq]) (plX_lt h1) (plY_lt hk) hw hh rfl
  rw [work_none ok hr hq] at K
  exact K

theorem gfault_calls (k a : Int) (W : World) : Calls Tryz.prog 131 #[.int .i64 k, .int .i64 a] W fun e w' => e = .returned (flT k a) ∧ W.grownBy w' none := by
  unfold flT
  go_enter Tryz.func131, Tryz.ntmps131
  go_wp2
  refine bodyPost_ret (v := .agg #[.int .i64 k, .int .i64 2, .int .i64 a]) (by simp only [results, Tryz.results131]; go_simp) rfl ⟨rfl, World.grownBy_alloc _ _ none⟩

end Go.Proofs.YtnieeckdldpebaaGreat.Tr
