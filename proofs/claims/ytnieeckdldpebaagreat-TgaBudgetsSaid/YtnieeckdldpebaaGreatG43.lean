/- Texts of one kind, one behind the other: TrD, TrE, TrF, TrG, TrI. -/
import Derived.Test.YtnieeckdldpebaaGreatG07
import Derived.Test.YtnieeckdldpebaaGreatG42
/- Layer 19: Decode, by any ledger, behind a good head (written by wip/gen/trd.py). -/
namespace Go.Proofs.YtnieeckdldpebaaGreat.Tr
open Go.ChangeShapes Go.WideShapes Go.ChangeAt Go.RowKit
open Go.Proofs.YtnieeckdldpebaaGreat.Sc Go.Proofs.YtnieeckdldpebaaGreat.Le Go.Proofs.YtnieeckdldpebaaGreat.Pa Go.Proofs.YtnieeckdldpebaaGreat.Tk Go.Proofs.YtnieeckdldpebaaGreat.Tg Go.Proofs.YtnieeckdldpebaaGreat.Tp Go.Proofs.YtnieeckdldpebaaGreat.Ra
set_option linter.unusedVariables false

theorem sides_okd {x : St} {a b : Int} (hr : x.r = 0) (a1 : 1 ≤ a) (a2 : a ≤ x.w) (b1 : 1 ≤ b) (b2 : b ≤ x.h) : x.sides a b = (x, true) := by
  unfold St.sides
  rw [if_neg (fun h => h hr), if_neg (by omega), if_neg (by omega)]
theorem sides_nok {x : St} {a b : Int} (hr : x.r = 0) (a1 : 1 ≤ a) (b1 : 1 ≤ b) (hn : x.w < a ∨ x.h < b) : (x.sides a b).2 = false ∧ Lm x (x.sides a b).1 ∧ (x.sides a b).1.r ≠ 0 ∧ (x.sides a b).1.by_ = x.by_ := by
  unfold St.sides
  rw [if_neg (fun h => h hr)]
  by_cases h1 : a < 1 ∨ x.w < a
  · rw [if_pos h1]
    unfold St.refuse
    rw [if_pos hr]
    exact ⟨rfl, ⟨rfl, rfl, rfl, rfl⟩, by show (1 : Int) ≠ 0; decide, rfl⟩
  · rw [if_neg h1, if_pos (by omega)]
    unfold St.refuse
    rw [if_pos hr]
    exact ⟨rfl, ⟨rfl, rfl, rfl, rfl⟩, by show (1 : Int) ≠ 0; decide, rfl⟩
theorem new_nod (l : Nat) (x : St) (a b : Nat) (w : World) (h : Led l x.ls w) (ok : x.Ok) (hr : x.r = 0) (a0 : 1 ≤ a) (a1 : a ≤ 16384) (b0 : 1 ≤ b) (b1 : b ≤ 16384) (hn : x.w < a ∨ x.h < b ∨ x.b < x.by_ + ((4 * (a * b) : Nat) : Int)) :
    Calls Tryz.prog 27 #[.pointer (some ⟨l, 0, none⟩), .int .i64 a, .int .i64 b] w
      fun e w' => e = .returned (.tuple #[.pointer none, .int .i64 4]) ∧ ∃ y, Led l y.ls w' ∧ y.Ok ∧ Lm x y ∧ y.r ≠ 0 ∧ y.by_ = x.by_ ∧ w.grownBy w' (some l) := by
  by_cases h1 : x.w < a ∨ x.h < b
  · obtain ⟨e1, e2, e3, e4⟩ := sides_nok (x := x) (a := a) (b := b) hr (by omega) (by omega) h1
    exact (Ra.new_sides l x a b w h a0 a1 b0 b1 e1).mono fun e w' ⟨he, hL, hg⟩ => ⟨he, _, hL, ok.sides _ _, e2, e3, e4, hg⟩
  · obtain ⟨e1, e2, e3, e4⟩ := take_nok hr (4 * (a * b)) (by omega)
    exact (Ra.new_spent l x a b w h ok a0 a1 b0 b1 (sides_okd hr (by omega) (by omega) (by omega) (by omega)) e1).mono fun e w' ⟨he, hL, hg⟩ => ⟨he, _, hL, ok.take _, e2, e3, e4, hg⟩
theorem ledger_rdd (c l : Nat) (s : ByteArray) (p : Nat) (x : St) (w : World) (h : Rd c l s p x w) :
    Calls Tryz.prog 28 #[.pointer (some ⟨c, 0, none⟩)] w fun e w' => e = .returned (.pointer (some ⟨l, 0, none⟩)) ∧ w = w' := Sr.ledger_calls c l s p 0 s.size w h.so
theorem give_d {x x1 y z : St} {n : Nat} (L : Lm x x1) (hb : x1.by_ = x.by_ + ((n : Nat) : Int)) (h0 : 0 ≤ x.by_) (L2 : Lm x1 y) (hy : y.by_ = x1.by_) : Lm x (y.give ((n : Nat) : Int)).1 ∧ (y.give ((n : Nat) : Int)).1.by_ = x.by_ ∧ (y.give ((n : Nat) : Int)).1.r = y.r := by
  have h2 := L.trans L2
  unfold St.give
  rw [if_neg (by omega)]
  exact ⟨⟨h2.w, h2.h, h2.b, h2.s⟩, by show y.by_ - _ = x.by_; omega, rfl⟩

set_option maxRecDepth 100000 in
set_option maxHeartbeats 8000000 in
theorem tdec_good (c l : Nat) (s : ByteArray) (x : St) (nm x2 fs cnt en gw gh d a n f p N B : Nat) (mp lf tp : Bool) (C : Nat → Nat → Int) (L : List Nat) (W : World) (R : Rd c l s 0 x W) (hr : x.r = 0) (hw : x.st + 1 ≤ x.s) (hN : gw * gh = n) (w1 : 1 ≤ gw) (w2 : gw ≤ 16384) (h1 : 1 ≤ gh) (h2 : gh ≤ 16384) (hs18 : 18 ≤ s.size)
    (KH0 : ∀ u, Rd c l s 0 x u → Calls Tryz.prog 26 #[.pointer (some ⟨c, 0, none⟩)] u (fun e w' => e = .returned (.tuple #[.agg #[.int .i64 nm, .bool mp, .int .i64 x2, .int .i64 fs, .int .i64 cnt, .int .i64 en, .int .i64 gw, .int .i64 gh, .int .i64 d, .int .i64 a, .bool lf, .bool tp], .agg #[.int .i64 0, .int .i64 0, .int .i64 0]]) ∧ Rd c l s 18 (stp x 1) w' ∧ Tn u w' [c, l]))
    (KF0 : ∀ u r cb g x1, B0 u 0 c l r cb g → Rd c l s 18 x1 u → x1.r = 0 → Ro r l cb g gw gh (Bu.rep 0 (4 * n)) u → Calls Tryz.prog 30 #[.pointer (some ⟨c, 0, none⟩), .agg #[.int .i64 nm, .bool mp, .int .i64 x2, .int .i64 fs, .int .i64 cnt, .int .i64 en, .int .i64 gw, .int .i64 gh, .int .i64 d, .int .i64 a, .bool lf, .bool tp], .pointer (some ⟨r, 0, none⟩)] u (FO u c l r cb g gw gh lf tp C s x1 f p N B n L)) :
    Calls Tryz.prog 10 #[.pointer (some ⟨c, 0, none⟩)] W (DT W s c l x f p gw gh (1 + N) (4 * n + B) (rsl (plI gw gh lf tp) (fB C) L n)) := by
  obtain ⟨Q, hQ⟩ : ∃ Q : Ending → World → Prop, DT W s c l x f p gw gh (1 + N) (4 * n + B) (rsl (plI gw gh lf tp) (fB C) L n) = Q := ⟨_, rfl⟩
  rw [hQ]
  have HQ := Lib.hid hQ
  have KH := Lib.hid KH0
  have KF := Lib.hid KF0
  have hc := R.clt
  have hl := R.llt
  have HW := Lib.hid (And.intro hr (And.intro hw (And.intro hN (And.intro hs18 R.ok.y0))))
  have hxr : (stp x 1).r = 0 := hr
  have HR0 := Lib.hid (R.grown (World.grownBy_alloc W (.cells #[.int .i64 0, .int .i64 0, .int .i64 0] 29) none))
  have HF0 := Lib.hid (Fl.new W)
  have HT0 := Lib.hid (Tn.gb (World.grownBy_alloc W (.cells #[.int .i64 0, .int .i64 0, .int .i64 0] 29) none) (S := [c, l]) (by simp))
  have hcl : c ≠ l := R.so.bl
  clear R hQ KH0 KF0 hr hw hs18
  go_enter Tryz.func10, Tryz.ntmps10
  go_wp2_with fail
  refine (KH.out _ HR0.out).mono ?_
  rintro e w3 ⟨rfl, R3, T3⟩
  have G4 := gb_trans (World.grownBy_alloc w3 (.cells #[.int .i64 nm, .bool mp, .int .i64 x2, .int .i64 fs, .int .i64 cnt, .int .i64 en, .int .i64 gw, .int .i64 gh, .int .i64 d, .int .i64 a, .bool lf, .bool tp] 55) none) (World.grownBy_alloc _ (.cells #[.int .i64 0, .int .i64 0, .int .i64 0] 29) none)
  have F4 : Fl (w3.heap.size + 1) 0 0 0 ((w3.alloc (.cells #[.int .i64 nm, .bool mp, .int .i64 x2, .int .i64 fs, .int .i64 cnt, .int .i64 en, .int .i64 gw, .int .i64 gh, .int .i64 d, .int .i64 a, .bool lf, .bool tp] 55)).alloc (.cells #[.int .i64 0, .int .i64 0, .int .i64 0] 29)) := blk_at1
  have X4 : ((w3.alloc (.cells #[.int .i64 nm, .bool mp, .int .i64 x2, .int .i64 fs, .int .i64 cnt, .int .i64 en, .int .i64 gw, .int .i64 gh, .int .i64 d, .int .i64 a, .bool lf, .bool tp] 55)).alloc (.cells #[.int .i64 0, .int .i64 0, .int .i64 0] 29)).heap[w3.heap.size]? = some (.cells #[.int .i64 nm, .bool mp, .int .i64 x2, .int .i64 fs, .int .i64 cnt, .int .i64 en, .int .i64 gw, .int .i64 gh, .int .i64 d, .int .i64 a, .bool lf, .bool tp] 55 (0, 0)) := old0 (World.grownBy_alloc _ _ none) blk_at (by rw [size_alloc]; omega) (by simp)
  have T4 := (HT0.out.trans T3).trans (Tn.gb G4 (by simp))
  have R4 := R3.grown G4
  have L4 := (HF0.out.turned T3 (by simp; omega)).turned (Tn.gb G4 (S := [c, l]) (by simp)) (by simp; omega)
  have z3 := T3.size
  have z0 : (W.alloc (.cells #[.int .i64 0, .int .i64 0, .int .i64 0] 29)).heap.size = W.heap.size + 1 := size_alloc _ _
  have z4 : ((w3.alloc (.cells #[.int .i64 nm, .bool mp, .int .i64 x2, .int .i64 fs, .int .i64 cnt, .int .i64 en, .int .i64 gw, .int .i64 gh, .int .i64 d, .int .i64 a, .bool lf, .bool tp] 55)).alloc (.cells #[.int .i64 0, .int .i64 0, .int .i64 0] 29)).heap.size = w3.heap.size + 2 := by rw [size_alloc, size_alloc]
  have hw3 : W.heap.size + 1 ≤ w3.heap.size := by omega
  have p0 := F4.c0
  have p1 := F4.c1
  have p2 := F4.c2
  have c0 : ((w3.alloc (.cells #[.int .i64 nm, .bool mp, .int .i64 x2, .int .i64 fs, .int .i64 cnt, .int .i64 en, .int .i64 gw, .int .i64 gh, .int .i64 d, .int .i64 a, .bool lf, .bool tp] 55)).alloc (.cells #[.int .i64 0, .int .i64 0, .int .i64 0] 29)).cell? ⟨w3.heap.size, 0, none⟩ = some (.int .i64 nm) := blk_cell X4 0
  have c1 : ((w3.alloc (.cells #[.int .i64 nm, .bool mp, .int .i64 x2, .int .i64 fs, .int .i64 cnt, .int .i64 en, .int .i64 gw, .int .i64 gh, .int .i64 d, .int .i64 a, .bool lf, .bool tp] 55)).alloc (.cells #[.int .i64 0, .int .i64 0, .int .i64 0] 29)).cell? ⟨w3.heap.size, 1, none⟩ = some (.bool mp) := blk_cell X4 1
  have c2 : ((w3.alloc (.cells #[.int .i64 nm, .bool mp, .int .i64 x2, .int .i64 fs, .int .i64 cnt, .int .i64 en, .int .i64 gw, .int .i64 gh, .int .i64 d, .int .i64 a, .bool lf, .bool tp] 55)).alloc (.cells #[.int .i64 0, .int .i64 0, .int .i64 0] 29)).cell? ⟨w3.heap.size, 2, none⟩ = some (.int .i64 x2) := blk_cell X4 2
  have c3 : ((w3.alloc (.cells #[.int .i64 nm, .bool mp, .int .i64 x2, .int .i64 fs, .int .i64 cnt, .int .i64 en, .int .i64 gw, .int .i64 gh, .int .i64 d, .int .i64 a, .bool lf, .bool tp] 55)).alloc (.cells #[.int .i64 0, .int .i64 0, .int .i64 0] 29)).cell? ⟨w3.heap.size, 3, none⟩ = some (.int .i64 fs) := blk_cell X4 3
  have c4 : ((w3.alloc (.cells #[.int .i64 nm, .bool mp, .int .i64 x2, .int .i64 fs, .int .i64 cnt, .int .i64 en, .int .i64 gw, .int .i64 gh, .int .i64 d, .int .i64 a, .bool lf, .bool tp] 55)).alloc (.cells #[.int .i64 0, .int .i64 0, .int .i64 0] 29)).cell? ⟨w3.heap.size, 4, none⟩ = some (.int .i64 cnt) := blk_cell X4 4
  have c5 : ((w3.alloc (.cells #[.int .i64 nm, .bool mp, .int .i64 x2, .int .i64 fs, .int .i64 cnt, .int .i64 en, .int .i64 gw, .int .i64 gh, .int .i64 d, .int .i64 a, .bool lf, .bool tp] 55)).alloc (.cells #[.int .i64 0, .int .i64 0, .int .i64 0] 29)).cell? ⟨w3.heap.size, 5, none⟩ = some (.int .i64 en) := blk_cell X4 5
  have c6 : ((w3.alloc (.cells #[.int .i64 nm, .bool mp, .int .i64 x2, .int .i64 fs, .int .i64 cnt, .int .i64 en, .int .i64 gw, .int .i64 gh, .int .i64 d, .int .i64 a, .bool lf, .bool tp] 55)).alloc (.cells #[.int .i64 0, .int .i64 0, .int .i64 0] 29)).cell? ⟨w3.heap.size, 6, none⟩ = some (.int .i64 gw) := blk_cell X4 6
  have c7 : ((w3.alloc (.cells #[.int .i64 nm, .bool mp, .int .i64 x2, .int .i64 fs, .int .i64 cnt, .int .i64 en, .int .i64 gw, .int .i64 gh, .int .i64 d, .int .i64 a, .bool lf, .bool tp] 55)).alloc (.cells #[.int .i64 0, .int .i64 0, .int .i64 0] 29)).cell? ⟨w3.heap.size, 7, none⟩ = some (.int .i64 gh) := blk_cell X4 7
  have c8 : ((w3.alloc (.cells #[.int .i64 nm, .bool mp, .int .i64 x2, .int .i64 fs, .int .i64 cnt, .int .i64 en, .int .i64 gw, .int .i64 gh, .int .i64 d, .int .i64 a, .bool lf, .bool tp] 55)).alloc (.cells #[.int .i64 0, .int .i64 0, .int .i64 0] 29)).cell? ⟨w3.heap.size, 8, none⟩ = some (.int .i64 d) := blk_cell X4 8
  have c9 : ((w3.alloc (.cells #[.int .i64 nm, .bool mp, .int .i64 x2, .int .i64 fs, .int .i64 cnt, .int .i64 en, .int .i64 gw, .int .i64 gh, .int .i64 d, .int .i64 a, .bool lf, .bool tp] 55)).alloc (.cells #[.int .i64 0, .int .i64 0, .int .i64 0] 29)).cell? ⟨w3.heap.size, 9, none⟩ = some (.int .i64 a) := blk_cell X4 9
  have c10 : ((w3.alloc (.cells #[.int .i64 nm, .bool mp, .int .i64 x2, .int .i64 fs, .int .i64 cnt, .int .i64 en, .int .i64 gw, .int .i64 gh, .int .i64 d, .int .i64 a, .bool lf, .bool tp] 55)).alloc (.cells #[.int .i64 0, .int .i64 0, .int .i64 0] 29)).cell? ⟨w3.heap.size, 10, none⟩ = some (.bool lf) := blk_cell X4 10
  have c11 : ((w3.alloc (.cells #[.int .i64 nm, .bool mp, .int .i64 x2, .int .i64 fs, .int .i64 cnt, .int .i64 en, .int .i64 gw, .int .i64 gh, .int .i64 d, .int .i64 a, .bool lf, .bool tp] 55)).alloc (.cells #[.int .i64 0, .int .i64 0, .int .i64 0] 29)).cell? ⟨w3.heap.size, 11, none⟩ = some (.bool tp) := blk_cell X4 11
  have HT4 := Lib.hid T4
  have HR4 := Lib.hid R4
  have HL4 := Lib.hid L4
  have HX4 := Lib.hid X4
  have HF4 := Lib.hid F4
  clear G4 F4 X4 T4 R4 L4 T3 R3 z3 z0 HR0 HF0 HT0 KH
  go_wp2_with fail
  generalize ((w3.alloc (.cells #[.int .i64 nm, .bool mp, .int .i64 x2, .int .i64 fs, .int .i64 cnt, .int .i64 en, .int .i64 gw, .int .i64 gh, .int .i64 d, .int .i64 a, .bool lf, .bool tp] 55)).alloc (.cells #[.int .i64 0, .int .i64 0, .int .i64 0] 29)) = w4 at p0 p1 p2 c0 c1 c2 c3 c4 c5 c6 c7 c8 c9 c10 c11 HT4 HR4 HL4 HX4 HF4 z4 ⊢
  obtain ⟨hd, hhd⟩ : ∃ q, w3.heap.size = q := ⟨_, rfl⟩
  rw [hhd] at p0 p1 p2 c0 c1 c2 c3 c4 c5 c6 c7 c8 c9 c10 c11 HX4 HF4 z4 hw3 ⊢
  clear hhd
  have KL := Lib.hid (fun u (R : Rd c l s 18 (stp x 1) u) => ledger_rdd c l s 18 _ u R)
  have KA := Lib.hid (fun u y (R : Rd c l s 18 y u) => Sr.at_calls c l s 18 0 s.size u R.so)
  by_cases hno : (stp x 1).w < gw ∨ (stp x 1).h < gh ∨ (stp x 1).b < (stp x 1).by_ + ((4 * (gw * gh) : Nat) : Int)
  · have KN := Lib.hid (fun u (R : Rd c l s 18 (stp x 1) u) => new_nod l (stp x 1) gw gh u R.led R.ok hxr w1 w2 h1 h2 hno)
    have HNO := Lib.hid hno
    clear hno hxr
    go_region_held3 (fun w' => w'.cell? ⟨hd, 6, none⟩ = some (.int .i64 gw) ∧ w'.cell? ⟨hd, 7, none⟩ = some (.int .i64 gh)) (go_keep)
      (first
        | (go_at_call 28; refine (KL.out _ (HR4.out.grown (gb_drew _ _))).mono ?_; rintro e w' ⟨rfl, rfl⟩)
        | (go_at_call 27; refine (KN.out _ (HR4.out.grown (gb_drew _ _))).mono ?_; rintro e w5 ⟨rfl, y, L5, ok5, lim5, hy5, by5, g5⟩; have t5l : Tn w4 w5 [l] := (Tn.gb (gb_drew w4 none) (S := [l]) (by simp)).trans (Tn.gb g5 (by simp)); have HX5 := Lib.hid (kept t5l HX4.out (by simp; omega)); have kk0 : w5.cell? ⟨hd, 6, none⟩ = some (.int .i64 gw) := blk_cell HX5.out 6; have kk1 : w5.cell? ⟨hd, 7, none⟩ = some (.int .i64 gh) := blk_cell HX5.out 7))
    all_goals
      have t5 : Tn w4 w5 [c, l] := t5l.mono (by intro i hi; simp at hi ⊢; omega)
      have R5 : Rd c l s 18 y w5 := ⟨HR4.out.so.turned t5l (by simpa using HR4.out.so.bl), L5, ok5⟩
      have L9 := HL4.out.turned t5 (by simp; omega)
      have q0 := L9.c0
      have qf0 := L9.free 0
      have q1 := L9.c1
      have qf1 := L9.free 1
      have q2 := L9.c2
      have qf2 := L9.free 2
      have HT5 := Lib.hid (HT4.out.trans t5)
      have HR5 := Lib.hid R5
      have HY := Lib.hid (And.intro hy5 (And.intro by5 lim5))
      clear p0 p1 p2 c0 c1 c2 c3 c4 c5 c6 c7 c8 c9 c10 c11 t5 t5l L5 g5 R5 L9 hy5 by5 lim5 ok5 KN KL kk0 kk1 HX4 HF4 HL4 HT4 HR4 HX5
      go_wp2_with fail
      refine (KA.out w5 y HR5.out).mono ?_
      rintro e w' ⟨rfl, rfl⟩
      go_wp2_with fail
      refine bodyPost_ret (v := .tuple #[.pointer none, flT 4 18]) (by simp only [results, Tryz.results10, flT]; go_simp) rfl ?_
      rw [← HQ.out]
      have t6 : Tn w5 (((w5.setCell ⟨W.heap.size, 0, none⟩ (.int .i64 4)).setCell ⟨W.heap.size, 1, none⟩ (.int .i64 2)).setCell ⟨W.heap.size, 2, none⟩ (.int .i64 18)) [W.heap.size] := (((Tn.refl w5 [W.heap.size]).st (by simp)).st (by simp)).st (by simp)
      refine ⟨18, y, HR5.out.own t6 (by simp; omega) (by simp; omega), HT5.out.over t6 (by intro i hi; simp at hi; left; omega), (lm_stp x 1).trans HY.out.2.2, .inr (.inr ⟨?_, ⟨18, HW.out.2.2.2.1, rfl⟩, HY.out.1, HY.out.2.1⟩)⟩
      have hN := HW.out.2.2.1
      rcases HNO.out with h1 | h1 | h1
      · exact .inl h1
      · exact .inr (.inl h1)
      · rw [hN] at h1
        exact .inr (.inr (.inl (by have h2 : x.b < x.by_ + ((4 * n : Nat) : Int) := h1; omega)))
  · have hsd : (stp x 1).sides gw gh = (stp x 1, true) := sides_okd hxr (by omega) (by omega) (by omega) (by omega)
    have hbb : (stp x 1).by_ + ((4 * (gw * gh) : Nat) : Int) ≤ (stp x 1).b := by omega
    have hlm : (gw : Int) ≤ x.w ∧ (gh : Int) ≤ x.h := by
      have e1 : (stp x 1).w = x.w := rfl
      have e2 : (stp x 1).h = x.h := rfl
      rw [e1, e2] at hno
      omega
    have htk := take_ok hxr (4 * (gw * gh)) hbb
    have hok := HR4.out.ok.take ((4 * (gw * gh) : Nat) : Int)
    rw [htk] at hok
    obtain ⟨x1, hx1⟩ : ∃ x1, tkn (stp x 1) (4 * (gw * gh)) = x1 := ⟨_, rfl⟩
    have KN : ∀ u, Rd c l s 18 (stp x 1) u → Calls Tryz.prog 27 #[.pointer (some ⟨l, 0, none⟩), .int .i64 gw, .int .i64 gh] u
        fun e w' => ∃ r c g, e = .returned (.tuple #[.pointer (some ⟨r, 0, none⟩), .int .i64 0]) ∧ Ro r l c g gw gh (Bu.rep 0 (4 * n)) w' ∧ Led l x1.ls w' ∧ u.grownBy w' (some l) ∧ u.heap.size ≤ r ∧ u.heap.size ≤ c ∧ u.heap.size ≤ g := fun u R => by
      have K := Ra.new_yes l (stp x 1) gw gh u R.led R.ok w1 w2 h1 h2 hsd (by rw [htk])
      rw [htk, hx1, HW.out.2.2.1] at K
      exact K
    rw [hx1] at hok
    have f1 : x1.r = 0 ∧ x1.s = x.s ∧ x1.st = x.st + ((1 : Nat) : Int) ∧ x1.by_ = x.by_ + ((4 * n : Nat) : Int) ∧ x1.b = x.b ∧ Lm x x1 := by
      rw [← hx1, ← HW.out.2.2.1]
      exact ⟨hxr, rfl, rfl, rfl, rfl, ⟨rfl, rfl, rfl, rfl⟩⟩
    have H1 := Lib.hid f1
    have HLM := Lib.hid hlm
    have HOK := Lib.hid hok
    have HKN := Lib.hid KN
    clear hsd hbb htk hok KN f1 hlm hno hxr hx1
    go_region_held3 (fun w' => w'.cell? ⟨hd, 6, none⟩ = some (.int .i64 gw) ∧ w'.cell? ⟨hd, 7, none⟩ = some (.int .i64 gh)) (go_keep)
      (first
        | (go_at_call 28; refine (KL.out _ (HR4.out.grown (gb_drew _ _))).mono ?_; rintro e w' ⟨rfl, rfl⟩)
        | (go_at_call 27; refine (HKN.out _ (HR4.out.grown (gb_drew _ _))).mono ?_; rintro e w5 ⟨r, cb, g, rfl, O5, L5, g5, hr5, hcb5, hg5⟩; have t5l : Tn w4 w5 [l] := (Tn.gb (gb_drew w4 none) (S := [l]) (by simp)).trans (Tn.gb g5 (by simp)); have HX5 := Lib.hid (kept t5l HX4.out (by simp; omega)); have kk0 : w5.cell? ⟨hd, 6, none⟩ = some (.int .i64 gw) := blk_cell HX5.out 6; have kk1 : w5.cell? ⟨hd, 7, none⟩ = some (.int .i64 gh) := blk_cell HX5.out 7))
    all_goals
      have hr5 : w4.heap.size ≤ r := hr5
      have hcb5 : w4.heap.size ≤ cb := hcb5
      have hg5 : w4.heap.size ≤ g := hg5
      have R5 : Rd c l s 18 x1 w5 := ⟨HR4.out.so.turned t5l (by simpa using HR4.out.so.bl), L5, HOK.out⟩
      have L9 := HL4.out.turned t5l (by simp; omega)
      have F9 := HF4.out.turned t5l (by simp; omega)
      have T5 := HT4.out.trans (t5l.mono (by intro i hi; simp at hi ⊢; omega) : Tn w4 w5 [c, l])
      have rlt := O5.lt
      have clt := O5.buf.lt
      have glt := O5.buf.glt
      have hbg := O5.buf.bg
      have hrg := O5.rg
      have z5 := t5l.size
      have BB : B0 w5 0 c l r cb g := ⟨Nat.zero_le _, by omega, by omega, by omega, by omega, by omega, by omega, hrg, hbg, by omega, by omega, rlt, clt, glt⟩
      have HK0 := Lib.hid (KF.out w5 r cb g x1 BB R5 H1.out.1 O5)
      clear c0 c1 c2 c3 c4 c5 c6 c7 c8 c9 c10 c11 p0 p1 p2 kk0 kk1
      have c0 : w5.cell? ⟨hd, 0, none⟩ = some (.int .i64 nm) := blk_cell HX5.out 0
      have c1 : w5.cell? ⟨hd, 1, none⟩ = some (.bool mp) := blk_cell HX5.out 1
      have c2 : w5.cell? ⟨hd, 2, none⟩ = some (.int .i64 x2) := blk_cell HX5.out 2
      have c3 : w5.cell? ⟨hd, 3, none⟩ = some (.int .i64 fs) := blk_cell HX5.out 3
      have c4 : w5.cell? ⟨hd, 4, none⟩ = some (.int .i64 cnt) := blk_cell HX5.out 4
      have c5 : w5.cell? ⟨hd, 5, none⟩ = some (.int .i64 en) := blk_cell HX5.out 5
      have c6 : w5.cell? ⟨hd, 6, none⟩ = some (.int .i64 gw) := blk_cell HX5.out 6
      have c7 : w5.cell? ⟨hd, 7, none⟩ = some (.int .i64 gh) := blk_cell HX5.out 7
      have c8 : w5.cell? ⟨hd, 8, none⟩ = some (.int .i64 d) := blk_cell HX5.out 8
      have c9 : w5.cell? ⟨hd, 9, none⟩ = some (.int .i64 a) := blk_cell HX5.out 9
      have c10 : w5.cell? ⟨hd, 10, none⟩ = some (.bool lf) := blk_cell HX5.out 10
      have c11 : w5.cell? ⟨hd, 11, none⟩ = some (.bool tp) := blk_cell HX5.out 11
      have HT5 := Lib.hid T5
      have HL5 := Lib.hid L9
      have HF5 := Lib.hid F9
      have HBB := Lib.hid BB
      have HS5 := Lib.hid (And.intro hr5 (And.intro hcb5 (And.intro hg5 (And.intro glt z5))))
      have p0 := F9.c0
      have pf0 := F9.free 0
      have p1 := F9.c1
      have pf1 := F9.free 1
      have p2 := F9.c2
      have pf2 := F9.free 2
      have hlx := blk_lt HX5.out
      have hly := F9.lt
      clear R5 L9 F9 T5 rlt clt glt hbg hrg z5 BB O5 L5 g5 hr5 hcb5 hg5 t5l HX4 HF4 HL4 HT4 HR4 HKN KL KF
      go_wp2_with fail
      refine HK0.out.mono ?_
      rintro e w6 h6
      obtain ⟨q, y, R6, T6, lm6, by6, ⟨RA, O6⟩, hh⟩ := h6
      have zz := HS5.out
      have L6 := HL5.out.turned T6 (by simp; omega)
      have F6 := HF5.out.turned T6 (by simp; omega)
      clear c0 c1 c2 c3 c4 c5 c6 c7 c8 c9 c10 c11 p0 p1 p2 pf0 pf1 pf2 hlx hly
      have q0 := L6.c0
      have qf0 := L6.free 0
      have q1 := L6.c1
      have qf1 := L6.free 1
      have q2 := L6.c2
      have qf2 := L6.free 2
      have p0 := F6.c0
      have pf0 := F6.free 0
      have p1 := F6.c1
      have pf1 := F6.free 1
      have p2 := F6.c2
      have pf2 := F6.free 2
      have hlx := L6.lt
      have hly := F6.lt
      have m0 : ¬ hd + 1 = W.heap.size := by omega
      have m1 : ¬ W.heap.size = hd + 1 := by omega
      have HT6 := Lib.hid (HT5.out.over T6 (by intro i hi; simp at hi ⊢; omega))
      have HR6 := Lib.hid (And.intro R6 (And.intro lm6 by6))
      have HO6 := Lib.hid O6
      have HL6 := Lib.hid L6
      have HF6 := Lib.hid F6
      have z6 := T6.size
      clear R6 T6 lm6 by6 O6 L6 F6 HK0 HT5
      have hb : (f = 0 ∧ e = .returned okT ∧ y.r = 0 ∧ Ro r l cb g gw gh (rsl (plI gw gh lf tp) (fB C) L n) w6) ∨ (∃ k j : Int, e = .returned (flT k j) ∧ k ≠ 0 ∧ ((f ≠ 0 ∧ k = f ∧ j = p ∧ y.r = 0) ∨ (k = 4 ∧ 0 ≤ j ∧ j ≤ s.size ∧ y.r ≠ 0 ∧ (x1.s < x1.st + (N : Int) ∨ x1.b < x1.by_ + (B : Int))))) := by
        rcases hh with h | ⟨h1, h2, h3⟩ | ⟨h1, ⟨j, h2, h3⟩, h4⟩
        · exact .inl h
        · exact .inr ⟨f, p, h2, by omega, .inl ⟨h1, rfl, rfl, h3⟩⟩
        · exact .inr ⟨4, j, h3, by decide, .inr ⟨rfl, by omega, by omega, h4, h1⟩⟩
      clear hh
      rcases hb with ⟨f0, rfl, yr, OF⟩ | ⟨k, j, rfl, hkn, hcs⟩
      · have HY := Lib.hid (And.intro f0 (And.intro yr OF))
        clear f0 yr OF
        unfold okT
        go_wp2_with fail
        refine bodyPost_ret (v := .tuple #[.pointer (some ⟨r, 0, none⟩), okT]) (by simp only [results, Tryz.results10, okT]; go_simp) rfl ?_
        rw [← HQ.out]
        have TB : Tn w6 ((((((w6.setCell ⟨hd + 1, 0, none⟩ (.int .i64 0)).setCell ⟨hd + 1, 1, none⟩ (.int .i64 0)).setCell ⟨hd + 1, 2, none⟩ (.int .i64 0)).setCell ⟨W.heap.size, 0, none⟩ (.int .i64 0)).setCell ⟨W.heap.size, 1, none⟩ (.int .i64 0)).setCell ⟨W.heap.size, 2, none⟩ (.int .i64 0)) [hd + 1, W.heap.size] := ((((((Tn.refl _ _).st (by simp)).st (by simp)).st (by simp)).st (by simp)).st (by simp)).st (by simp)
        refine ⟨q, y, HR6.out.1.own TB (by simp; omega) (by simp; omega), HT6.out.over TB (by intro i hi; simp at hi; left; omega), H1.out.2.2.2.2.2.trans HR6.out.2.1, .inl ⟨HY.out.1, ⟨r, cb, g, rfl, HY.out.2.2.turned (tB TB) (by simp; omega) (by simp; omega) (by simp; omega), by omega, by omega, by omega⟩, ?_, HY.out.2.1, HLM.out.1, HLM.out.2⟩⟩
        rw [HR6.out.2.2, H1.out.2.2.2.1, HW.out.2.2.1]
      · have HC := Lib.hid hcs
        clear hcs
        unfold flT
        go_wp2_with fail
        have TT : Tn w6 (((w6.setCell ⟨hd + 1, 0, none⟩ (.int .i64 k)).setCell ⟨hd + 1, 1, none⟩ (.int .i64 2)).setCell ⟨hd + 1, 2, none⟩ (.int .i64 j)) [hd + 1] := (((Tn.refl _ _).st (by simp)).st (by simp)).st (by simp)
        have HR7 := Lib.hid (HR6.out.1.own TT (by simp; omega) (by simp; omega))
        have HO7 := Lib.hid (HO6.out.turned (tB TT) (by simp; omega) (by simp; omega) (by simp; omega))
        have HT7 := Lib.hid (HT6.out.over TT (by intro i hi; simp at hi; left; omega))
        have HL7 := Lib.hid (HL6.out.turned TT (by simp; omega))
        have HF7 := Lib.hid (HF6.out.set k 2 j)
        have z7 := TT.size
        clear TT p0 p1 p2 pf0 pf1 pf2 q0 q1 q2 qf0 qf1 qf2 HO6 HT6 HL6 HF6 hlx hly
        generalize (((w6.setCell ⟨hd + 1, 0, none⟩ (.int .i64 k)).setCell ⟨hd + 1, 1, none⟩ (.int .i64 2)).setCell ⟨hd + 1, 2, none⟩ (.int .i64 j)) = w7 at HR7 HO7 HT7 HL7 HF7 z7 ⊢
        refine (rfree_yes r l cb g gw gh RA y w7 HO7.out HR7.out.led HR7.out.ok).mono ?_
        rintro e w8 ⟨rfl, L8, T8⟩
        have L9 := HL7.out.turned T8 (by simp; omega)
        have F9 := HF7.out.turned T8 (by simp; omega)
        have q0 := L9.c0
        have qf0 := L9.free 0
        have q1 := L9.c1
        have qf1 := L9.free 1
        have q2 := L9.c2
        have qf2 := L9.free 2
        have p0 := F9.c0
        have pf0 := F9.free 0
        have p1 := F9.c1
        have pf1 := F9.free 1
        have p2 := F9.c2
        have pf2 := F9.free 2
        have hlx := L9.lt
        have hly := F9.lt
        have hsz : RA.size = 4 * n := by rw [← HW.out.2.2.1]; exact HO7.out.sz
        rw [hsz] at L8
        have okg := HR7.out.ok.give ((4 * n : Nat) : Int)
        have HR8 := Lib.hid (show Rd c l s q (y.give ((4 * n : Nat) : Int)).1 w8 from ⟨HR7.out.so.turned T8 (by have := HR7.out.so.bl; simp; omega), L8, okg⟩)
        have HT8 := Lib.hid (HT7.out.over T8 (by intro i hi; simp at hi ⊢; omega))
        clear L9 F9 L8 T8 HR7 HO7 HT7 HL7 HF7 hsz okg
        go_wp2_with fail
        go_region
        go_wp2
        refine bodyPost_ret (v := .tuple #[.pointer none, flT k j]) (by simp only [results, Tryz.results10, flT]; go_simp) rfl ?_
        rw [← HQ.out]
        have t9 : Tn w8 (((w8.setCell ⟨W.heap.size, 0, none⟩ (.int .i64 k)).setCell ⟨W.heap.size, 1, none⟩ (.int .i64 2)).setCell ⟨W.heap.size, 2, none⟩ (.int .i64 j)).drew [W.heap.size] := ((((Tn.refl w8 [W.heap.size]).st (by simp)).st (by simp)).st (by simp)).dr
        have e8 := give_d (z := y) (n := 4 * n) H1.out.2.2.2.2.2 H1.out.2.2.2.1 HW.out.2.2.2.2 HR6.out.2.1 HR6.out.2.2
        refine ⟨q, _, HR8.out.own t9 (by simp; omega) (by simp; omega), HT8.out.over t9 (by intro i hi; simp at hi; left; omega), e8.1, .inr ?_⟩
        rcases HC.out with ⟨c1, c2, c3, c4⟩ | ⟨c1, c2, c3, c4, c5⟩
        · exact .inl ⟨c1, by rw [c2, c3], by rw [e8.2.2]; exact c4, e8.2.1⟩
        · refine .inr ⟨?_, ⟨j.toNat, by omega, by rw [c1, Int.toNat_of_nonneg c2]⟩, by rw [e8.2.2]; exact c4, e8.2.1⟩
          have g1 := H1.out
          rcases c5 with c5 | c5
          · exact .inr (.inr (.inr (by omega)))
          · exact .inr (.inr (.inl (by omega)))

end Go.Proofs.YtnieeckdldpebaaGreat.Tr

/- Layer 19: fill for every class of heads, by any ledger (written by wip/gen/tre.py). -/
namespace Go.Proofs.YtnieeckdldpebaaGreat.Tr
open Go.ChangeShapes Go.WideShapes Go.ChangeAt Go.RowKit
open Go.Proofs.YtnieeckdldpebaaGreat.Sc Go.Proofs.YtnieeckdldpebaaGreat.Le Go.Proofs.YtnieeckdldpebaaGreat.Pa Go.Proofs.YtnieeckdldpebaaGreat.Tk Go.Proofs.YtnieeckdldpebaaGreat.Tg Go.Proofs.YtnieeckdldpebaaGreat.Tp Go.Proofs.YtnieeckdldpebaaGreat.Ra
set_option linter.unusedVariables false

theorem fo_join {ok : Prop} [Decidable ok] {W w' : World} {c l r cb g gw gh n f p N1 B1 N2 B2 N B : Nat} {lf tp : Bool} {C : Nat → Nat → Int} {s : ByteArray} {x : St} {L : List Nat} {e : Ending}
    (h : (ok ∧ FO W c l r cb g gw gh lf tp C s x f p N1 B1 n L e w') ∨ FX W c l r cb g gw gh s x (if ok then 0 else 1) N2 B2 e w') (a1 : ok → N1 ≤ N) (a2 : N2 ≤ N) (b1 : B1 ≤ B) (b2 : B2 ≤ B) :
    FO W c l r cb g gw gh lf tp C s x (if ok then f else 1) (if ok then p else s.size) N B n L e w' := by
  by_cases hk : ok
  · rw [if_pos hk] at h
    rw [if_pos hk, if_pos hk]
    rcases h with ⟨_, h⟩ | h
    · exact h.more (a1 hk) b1
    · exact h.fo (fun h => absurd rfl h) a2 b2
  · rw [if_neg hk] at h
    rw [if_neg hk, if_neg hk]
    rcases h with ⟨h, _⟩ | h
    · exact absurd h hk
    · exact h.fo (fun _ => ⟨rfl, rfl⟩) a2 b2

/-- No map at all. -/
theorem kf_none (nm x2 fs cnt en gw gh d a n : Nat) (lf tp : Bool) (mi : Int) (s : ByteArray) (sz : Nat) (C : Nat → Nat → Int) (KD PL : Nat → Nat) (E : BothR nm x2 fs cnt en gw gh d a false lf tp mi s sz C KD PL) (hN : gw * gh = n) (w1 : 1 ≤ gw) (w2 : gw ≤ 16384) (h2 : gh ≤ 16384) (ht : x2 < 256) (hx : pln x2 ≠ 1) (hs18 : 18 ≤ s.size) (c l : Nat) (u : World) (r cb g : Nat) (x1 : St) (B : B0 u 0 c l r cb g) (R : Rd c l s 18 x1 u) (hr : x1.r = 0) (O : Ro r l cb g gw gh (Bu.rep 0 (4 * n)) u) :
    Calls Tryz.prog 30 #[.pointer (some ⟨c, 0, none⟩), .agg #[.int .i64 nm, .bool false, .int .i64 x2, .int .i64 fs, .int .i64 cnt, .int .i64 en, .int .i64 gw, .int .i64 gh, .int .i64 d, .int .i64 a, .bool lf, .bool tp], .pointer (some ⟨r, 0, none⟩)] u (FO u c l r cb g gw gh lf tp C s x1 (if 18 + nm ≤ s.size then (allZ KD PL sz s (decide (9 ≤ (x2 : Int)) && decide ((x2 : Int) ≤ 11)) n (18 + nm)).f else 1) (if 18 + nm ≤ s.size then (allZ KD PL sz s (decide (9 ≤ (x2 : Int)) && decide ((x2 : Int) ≤ 11)) n (18 + nm)).p else s.size) (1 + if 18 + nm ≤ s.size then (allZ KD PL sz s (decide (9 ≤ (x2 : Int)) && decide ((x2 : Int) ≤ 11)) n (18 + nm)).n else 0) 0 n (allZ KD PL sz s (decide (9 ≤ (x2 : Int)) && decide ((x2 : Int) ≤ 11)) n (18 + nm)).l) := by
  have K := fill_none u c l r cb g sz n 18 (18 + nm) 1 nm x2 fs cnt en gw gh d a false lf tp C KD PL s x1 B E.2.1 E.2.2.1 (E.2.2.2.1 c l (.pointer none) (fun _ => True) (fun _ _ _ _ => trivial)) hN w1 w2 h2 hr R O (18 + nm ≤ s.size) id (if 18 + nm ≤ s.size then 0 else 1) 1 0 (fun v Rv => by
    by_cases hk : 18 + nm ≤ s.size ∧ x1.st + 1 ≤ x1.s
    · exact (tmap_none fs cnt en gw gh d a nm x2 lf tp c l s 18 x1 v Rv hr ht hx hk.1 hk.2).mono (fun e w' h => .inl ⟨hk.1, h⟩)
    · exact (tmap_name fs cnt en gw gh d a nm x2 false lf tp c l s 18 x1 v Rv hr hs18 ht 1 0 (Nat.le_refl _) (by omega) _ (fun h => if_neg (by omega))).mono (fun e w' h => .inr h))
  exact K.mono (fun e w' h => fo_join h (fun hk => by rw [if_pos hk]; exact Nat.le_refl _) (Nat.le_add_right _ _) (Nat.le_refl _) (Nat.le_refl _))

/-- A map that no pixel asks for. -/
theorem kf_over (nm x2 fs cnt en gw gh d a n : Nat) (lf tp : Bool) (mi : Int) (s : ByteArray) (sz : Nat) (C : Nat → Nat → Int) (KD PL : Nat → Nat) (E : BothR nm x2 fs cnt en gw gh d a true lf tp mi s sz C KD PL) (kd ez T : Nat) (EE : EC en kd ez T) (hc : cnt ≤ 65535) (hN : gw * gh = n) (w1 : 1 ≤ gw) (w2 : gw ≤ 16384) (h2 : gh ≤ 16384) (ht : x2 < 256) (hx : pln x2 ≠ 1) (hs18 : 18 ≤ s.size) (c l : Nat) (u : World) (r cb g : Nat) (x1 : St) (B : B0 u 0 c l r cb g) (R : Rd c l s 18 x1 u) (hr : x1.r = 0) (O : Ro r l cb g gw gh (Bu.rep 0 (4 * n)) u) :
    Calls Tryz.prog 30 #[.pointer (some ⟨c, 0, none⟩), .agg #[.int .i64 nm, .bool true, .int .i64 x2, .int .i64 fs, .int .i64 cnt, .int .i64 en, .int .i64 gw, .int .i64 gh, .int .i64 d, .int .i64 a, .bool lf, .bool tp], .pointer (some ⟨r, 0, none⟩)] u (FO u c l r cb g gw gh lf tp C s x1 (if 18 + nm + cnt * ez ≤ s.size then (allZ KD PL sz s (decide (9 ≤ (x2 : Int)) && decide ((x2 : Int) ≤ 11)) n (18 + nm + cnt * ez)).f else 1) (if 18 + nm + cnt * ez ≤ s.size then (allZ KD PL sz s (decide (9 ≤ (x2 : Int)) && decide ((x2 : Int) ≤ 11)) n (18 + nm + cnt * ez)).p else s.size) (2 + if 18 + nm + cnt * ez ≤ s.size then (allZ KD PL sz s (decide (9 ≤ (x2 : Int)) && decide ((x2 : Int) ≤ 11)) n (18 + nm + cnt * ez)).n else 0) 0 n (allZ KD PL sz s (decide (9 ≤ (x2 : Int)) && decide ((x2 : Int) ≤ 11)) n (18 + nm + cnt * ez)).l) := by
  have K := fill_none u c l r cb g sz n 18 (18 + nm + cnt * ez) 2 nm x2 fs cnt en gw gh d a true lf tp C KD PL s x1 B E.2.1 E.2.2.1 (E.2.2.2.1 c l (.pointer none) (fun _ => True) (fun _ _ _ _ => trivial)) hN w1 w2 h2 hr R O (18 + nm + cnt * ez ≤ s.size) id (if 18 + nm + cnt * ez ≤ s.size then 0 else 1) 2 0 (fun v Rv => by
    by_cases hk : 18 + nm ≤ s.size ∧ x1.st + 1 ≤ x1.s
    · exact tmap_over EE fs cnt gw gh d a nm x2 lf tp c l s 18 x1 v Rv hr ht hc hx hk.1 hk.2
    · exact (tmap_name fs cnt en gw gh d a nm x2 true lf tp c l s 18 x1 v Rv hr hs18 ht 2 0 (by omega) (by omega) _ (fun h => if_neg (by omega))).mono (fun e w' h => .inr h))
  exact K.mono (fun e w' h => fo_join h (fun hk => by rw [if_pos hk]; exact Nat.le_refl _) (Nat.le_add_right _ _) (Nat.le_refl _) (Nat.le_refl _))

/-- Pixels of a map. -/
theorem kf_mapped (nm x2 fs cnt en gw gh d a n : Nat) (mp lf tp : Bool) (s : ByteArray) (kd ez T : Nat) (EE : EC en kd ez T) (hc : cnt ≤ 65535) (hc1 : 1 ≤ cnt) (hfs : fs ≤ 65535) (D : Nat → Nat → Int) (hD : ∀ k, k < cnt → ∀ j, j < 4 → D k j = entAt T s (18 + nm + k * ez) j) (hDb : ∀ k j, 0 ≤ D k j ∧ D k j ≤ 255) (hN : gw * gh = n) (w1 : 1 ≤ gw) (w2 : gw ≤ 16384) (h2 : gh ≤ 16384) (ht : x2 < 256) (hx : pln x2 = 1) (hs18 : 18 ≤ s.size) (c l : Nat) (u : World) (r cb g : Nat) (x1 : St) (B : B0 u 0 c l r cb g) (R : Rd c l s 18 x1 u) (hr : x1.r = 0) (O : Ro r l cb g gw gh (Bu.rep 0 (4 * n)) u) :
    Calls Tryz.prog 30 #[.pointer (some ⟨c, 0, none⟩), .agg #[.int .i64 nm, .bool mp, .int .i64 x2, .int .i64 fs, .int .i64 cnt, .int .i64 en, .int .i64 gw, .int .i64 gh, .int .i64 d, .int .i64 a, .bool lf, .bool tp], .pointer (some ⟨r, 0, none⟩)] u (FO u c l r cb g gw gh lf tp (mC s fs cnt D) s x1 (if 18 + nm + cnt * ez ≤ s.size then (allZ (mKn s fs cnt) (mPn s fs cnt) 1 s (decide (9 ≤ (x2 : Int)) && decide ((x2 : Int) ≤ 11)) n (18 + nm + cnt * ez)).f else 1) (if 18 + nm + cnt * ez ≤ s.size then (allZ (mKn s fs cnt) (mPn s fs cnt) 1 s (decide (9 ≤ (x2 : Int)) && decide ((x2 : Int) ≤ 11)) n (18 + nm + cnt * ez)).p else s.size) ((1 + cnt) + if 18 + nm + cnt * ez ≤ s.size then (allZ (mKn s fs cnt) (mPn s fs cnt) 1 s (decide (9 ≤ (x2 : Int)) && decide ((x2 : Int) ≤ 11)) n (18 + nm + cnt * ez)).n else 0) (4 * cnt) n (allZ (mKn s fs cnt) (mPn s fs cnt) 1 s (decide (9 ≤ (x2 : Int)) && decide ((x2 : Int) ≤ 11)) n (18 + nm + cnt * ez)).l) := by
  have hcw := B.cw
  have hlw := B.lw
  have K := fill_pal u c l r cb g 1 n 18 (18 + nm + cnt * ez) (1 + cnt) nm x2 fs cnt en gw gh d a mp lf tp (mC s fs cnt D) (mKn s fs cnt) (mPn s fs cnt) s x1 B (kb_map s fs cnt) (mC_bd s fs cnt D hDb) D
    (fun p b' g' S hp hb' hg' hE => code_mapR nm x2 fs cnt en gw gh d a mp lf tp c l p b' g' s S D hx ht hfs hE ⟨by omega, by omega⟩ ⟨by omega, by omega⟩ ⟨by omega, by omega⟩)
    hN w1 w2 h2 hr R O (18 + nm + cnt * ez ≤ s.size) id (if 18 + nm + cnt * ez ≤ s.size then 0 else 1) (1 + cnt) (4 * cnt) (fun v Rv => by
    by_cases hk : 18 + nm ≤ s.size ∧ x1.st + 1 ≤ x1.s
    · exact tmap_mapped EE fs cnt gw gh d a nm x2 mp lf tp c l s 18 x1 v Rv hr ht hc hc1 D hD hx hk.1 hk.2
    · exact (tmap_name fs cnt en gw gh d a nm x2 mp lf tp c l s 18 x1 v Rv hr hs18 ht (1 + cnt) (4 * cnt) (by omega) (by omega) _ (fun h => if_neg (by omega))).mono (fun e w' h => .inr h))
  exact K.mono (fun e w' h => fo_join h (fun hk => by rw [if_pos hk]; exact Nat.le_refl _) (Nat.le_add_right _ _) (Nat.le_refl _) (Nat.le_refl _))

/-- A head that isn't there, by any ledger. -/
theorem kh_short (c l : Nat) (s : ByteArray) (x : St) (f N : Nat) (u : World) (R : Rd c l s 0 x u) (hr : x.r = 0) (hN : 1 ≤ N) (h : s.size < 18 ∨ x.s < x.st + 1) (p : Nat) (hf : s.size < 18 → f = 1 ∧ p = s.size) :
    Calls Tryz.prog 26 #[.pointer (some ⟨c, 0, none⟩)] u (HBad u c l s x f p N) := by
  have ok := R.ok
  by_cases hw : x.st + 1 ≤ x.s
  · have hs : s.size < 18 := by omega
    obtain ⟨e1, e2⟩ := hf hs
    have K := thead_no c l s 0 0 s.size x 1 s.size u R.so R.led R.ok (rdb_over (n := 18) (by omega)) (by rw [work_one hr hw]; exact if_pos hr)
    rw [work_one hr hw] at K
    exact K.mono (fun e w' ⟨he, ⟨S, L⟩, t⟩ => ⟨1, s.size, 0, stp x 1, he, ⟨S, L, stp_ok ok hr hw⟩, t, lm_stp x 1, rfl, .inl ⟨by omega, by rw [e1]; rfl, by rw [e2], hr⟩⟩)
  · have hw1 : x.s < x.st + 1 := by omega
    have K := thead_no c l s 0 0 s.size x 4 0 u R.so R.led R.ok (rdb_none (n := 18) ok hr hw1) (by rw [work_none ok hr hw1]; exact if_neg (by show ¬ (3 : Int) = 0; decide))
    rw [work_none ok hr hw1] at K
    exact K.mono (fun e w' ⟨he, ⟨S, L⟩, t⟩ => ⟨4, 0, 0, spent x, he, ⟨S, L, spent_okk ok hr hw1⟩, t, lm_spent x, rfl, .inr ⟨rfl, by omega, by omega, by show (3 : Int) ≠ 0; decide, by omega⟩⟩)

end Go.Proofs.YtnieeckdldpebaaGreat.Tr

/- Layer 19: what Decode does with any text, by any ledger (written by wip/gen/trf.py). -/
namespace Go.Proofs.YtnieeckdldpebaaGreat.Tr
open Go.ChangeShapes Go.WideShapes Go.ChangeAt Go.RowKit
open Go.Proofs.YtnieeckdldpebaaGreat.Sc Go.Proofs.YtnieeckdldpebaaGreat.Le Go.Proofs.YtnieeckdldpebaaGreat.Pa Go.Proofs.YtnieeckdldpebaaGreat.Tk Go.Proofs.YtnieeckdldpebaaGreat.Tg Go.Proofs.YtnieeckdldpebaaGreat.Tp Go.Proofs.YtnieeckdldpebaaGreat.Ra
set_option linter.unusedVariables false

theorem bn_ext (s : ByteArray) (h : 18 ≤ s.size) (i : Nat) (hi : i < 18) : bn (s.extract 0 18) i = bn s i := by
  unfold bn
  rw [Lib.extract_data, List.getD_eq_getElem?_getD, List.getD_eq_getElem?_getD, List.getElem?_take_of_lt (by omega), List.getElem?_drop, Nat.zero_add]
theorem wd_ext (s : ByteArray) (h : 18 ≤ s.size) (i : Nat) (hi : i + 1 < 18) : wd (s.extract 0 18) i = wd s i := by
  unfold wd
  rw [bn_ext s h i (by omega), bn_ext s h (i + 1) hi]
theorem mp_ext (s : ByteArray) (h : 18 ≤ s.size) : mpB (s.extract 0 18) = mpB s := by
  unfold mpB
  rw [bn_ext s h 1 (by decide)]
theorem hA_ext (s : ByteArray) (h : 18 ≤ s.size) : hA (s.extract 0 18) = hA s := by
  unfold hA fst cnt ent alp lft tpp
  rw [mp_ext s h, bn_ext s h 0 (by decide), bn_ext s h 2 (by decide), bn_ext s h 7 (by decide), bn_ext s h 16 (by decide), bn_ext s h 17 (by decide), wd_ext s h 3 (by decide), wd_ext s h 5 (by decide), wd_ext s h 12 (by decide), wd_ext s h 14 (by decide)]
theorem ck_same (s : ByteArray) (h : 18 ≤ s.size) (j : Nat) (hj : j < 12) : ck (s.extract 0 18) j = ck s j := by
  obtain rfl | rfl | rfl | rfl | rfl | rfl | rfl | rfl | rfl | rfl | rfl | rfl : j = 0 ∨ j = 1 ∨ j = 2 ∨ j = 3 ∨ j = 4 ∨ j = 5 ∨ j = 6 ∨ j = 7 ∨ j = 8 ∨ j = 9 ∨ j = 10 ∨ j = 11 := by omega
  all_goals
    simp only [ck]
    try rw [mp_ext s h]
    try rw [bn_ext s h 1 (by decide)]
    try rw [bn_ext s h 2 (by decide)]
    try rw [bn_ext s h 7 (by decide)]
    try rw [bn_ext s h 16 (by decide)]
    try rw [bn_ext s h 17 (by decide)]
    try rw [wd_ext s h 5 (by decide)]
    try rw [wd_ext s h 12 (by decide)]
    try rw [wd_ext s h 14 (by decide)]
theorem ck_extK (s : ByteArray) (h : 18 ≤ s.size) (K : Nat) (C : Ck s K) : Ck (s.extract 0 18) K := by
  refine ⟨C.le, ?_, fun j hj => ?_⟩
  · by_cases e : K < 12
    · rw [ck_same s h K e]; exact C.yes
    · obtain rfl : K = 12 := by have := C.le; omega
      rfl
  · rw [ck_same s h j (by have := C.le; omega)]
    exact C.no j hj

/-- What a good head tells of itself. -/
structure Hd (s : ByteArray) : Prop where
  s18 : 18 ≤ s.size
  c : Ck s 12
  x : bn s 2 = 1 ∨ bn s 2 = 2 ∨ bn s 2 = 3 ∨ bn s 2 = 9 ∨ bn s 2 = 10 ∨ bn s 2 = 11
  d : dpB (bn s 16) (bn s 2) = true
  a : alB (alp s) (bn s 16) = true
  m : pln (bn s 2) = 1 → mpB s = true
  en : mpB s = true → colB (ent s) = true
  c1 : mpB s = true → 1 ≤ cnt s
  c2 : cnt s ≤ 65535
  fs : fst s ≤ 65535
  w1 : 1 ≤ wd s 12
  w2 : wd s 12 ≤ 16384
  h1 : 1 ≤ wd s 14
  h2 : wd s 14 ≤ 16384
theorem hd_of {s : ByteArray} (h18 : 18 ≤ s.size) (C : Ck s 12) : Hd s := by
  have ht : typB (bn s 2) = true := by have h := C.no 1 (by omega); simp only [ck] at h; simpa using h
  have ht : 1 ≤ pln (bn s 2) ∧ pln (bn s 2) ≤ 3 := of_decide_eq_true ht
  refine ⟨h18, C, by unfold pln at ht; split at ht <;> omega, ?_, ?_, ?_, ?_, ?_, ?_, ?_, ?_, ?_, ?_, ?_⟩
  · have h := C.no 9 (by omega); simp only [ck] at h; simpa using h
  · have h := C.no 11 (by omega); simp only [ck] at h; unfold alp; simpa using h
  · intro hp
    have h := C.no 2 (by omega)
    simp only [ck, hp] at h
    simpa using h
  · intro hp
    have h := C.no 3 (by omega)
    simp only [ck, hp] at h
    unfold ent
    rw [if_pos hp]
    simpa using h
  · intro hp
    have h := C.no 4 (by omega)
    simp only [ck, hp] at h
    unfold cnt
    rw [if_pos hp]
    simp at h
    omega
  · unfold cnt; split; have := wd_lt s 5; omega; omega
  · unfold fst; split; have := wd_lt s 3; omega; omega
  · have h := C.no 5 (by omega); simp only [ck] at h; simp at h; omega
  · have h := C.no 6 (by omega); simp only [ck] at h; simp at h; omega
  · have h := C.no 7 (by omega); simp only [ck] at h; simp at h; omega
  · have h := C.no 8 (by omega); simp only [ck] at h; simp at h; omega

/-- What Decode does with a text, by any ledger: the fault f at p (f 0: none), sides w and h, N steps and B bytes at most, the raster's bytes A. -/
structure TV where
  f : Nat
  p : Nat
  w : Nat
  h : Nat
  N : Nat
  B : Nat
  A : ByteArray
def TD (s : ByteArray) (v : TV) : Prop := ∀ (c l : Nat) (x : St) (W : World), Rd c l s 0 x W → x.r = 0 → Calls Tryz.prog 10 #[.pointer (some ⟨c, 0, none⟩)] W (DT W s c l x v.f v.p v.w v.h v.N v.B v.A)

theorem td_short (s : ByteArray) (w h B : Nat) (A : ByteArray) (hs : s.size < 18) : TD s ⟨1, s.size, w, h, 1, B, A⟩ := fun c l x W R hr =>
  tdec_bad c l s x 1 s.size w h 1 B A W R (fun u Ru => kh_short c l s x 1 1 u Ru hr (Nat.le_refl _) (.inl hs) s.size (fun _ => ⟨rfl, rfl⟩))

theorem td_bad (s : ByteArray) (w h B : Nat) (A : ByteArray) (h18 : 18 ≤ s.size) (K : Nat) (C : Ck s K) (hK : K < 12) : TD s ⟨(kdK K).toNat, (plK K).toNat, w, h, 1, B, A⟩ := fun c l x W R hr => by
  have k23 := kd_23 K hK
  have hpl : 0 ≤ plK K := by
    obtain rfl | rfl | rfl | rfl | rfl | rfl | rfl | rfl | rfl | rfl | rfl | rfl : K = 0 ∨ K = 1 ∨ K = 2 ∨ K = 3 ∨ K = 4 ∨ K = 5 ∨ K = 6 ∨ K = 7 ∨ K = 8 ∨ K = 9 ∨ K = 10 ∨ K = 11 := by omega
    all_goals decide
  show Calls _ _ _ _ (DT W s c l x (kdK K).toNat (plK K).toNat w h 1 B A)
  refine tdec_bad c l s x (kdK K).toNat (plK K).toNat w h 1 B A W R (fun u Ru => ?_)
  by_cases hw : x.st + 1 ≤ x.s
  · have ok := Ru.ok
    have hz : (s.extract 0 18).size = 18 := by rw [ByteArray.size_extract]; omega
    have K1 := thead_bad c l s (s.extract 0 18) 0 0 s.size K x u Ru.so Ru.led ok (rdb_yes (n := 18) hr hw (by omega)) rfl hz (ck_extK s h18 K C) hK
    rw [work_one hr hw, Nat.zero_add] at K1
    exact K1.mono (fun e w' ⟨he, ⟨S, L⟩, t⟩ => ⟨_, _, 18, stp x 1, he, ⟨S, L, stp_ok ok hr hw⟩, t, lm_stp x 1, rfl, .inl ⟨by omega, by omega, by omega, hr⟩⟩)
  · exact kh_short c l s x _ 1 u Ru hr (Nat.le_refl _) (.inr (by omega)) _ (fun h => by omega)

theorem td_good (s : ByteArray) (D : Hd s) (n f p N B : Nat) (C : Nat → Nat → Int) (L : List Nat) (hN : wd s 12 * wd s 14 = n)
    (KF0 : ∀ c l u r cb g x1, B0 u 0 c l r cb g → Rd c l s 18 x1 u → x1.r = 0 → Ro r l cb g (wd s 12) (wd s 14) (Bu.rep 0 (4 * n)) u → Calls Tryz.prog 30 #[.pointer (some ⟨c, 0, none⟩), .agg #[.int .i64 (bn s 0), .bool (mpB s), .int .i64 (bn s 2), .int .i64 (fst s), .int .i64 (cnt s), .int .i64 (ent s), .int .i64 (wd s 12), .int .i64 (wd s 14), .int .i64 (bn s 16), .int .i64 (alp s), .bool (lft s), .bool (tpp s)], .pointer (some ⟨r, 0, none⟩)] u (FO u c l r cb g (wd s 12) (wd s 14) (lft s) (tpp s) C s x1 f p N B n L)) :
    TD s ⟨f, p, wd s 12, wd s 14, 1 + N, 4 * n + B, rsl (plI (wd s 12) (wd s 14) (lft s) (tpp s)) (fB C) L n⟩ := fun c l x W R hr => by
  by_cases hw : x.st + 1 ≤ x.s
  · refine tdec_good c l s x (bn s 0) (bn s 2) (fst s) (cnt s) (ent s) (wd s 12) (wd s 14) (bn s 16) (alp s) n f p N B (mpB s) (lft s) (tpp s) C L W R hr hw hN D.w1 D.w2 D.h1 D.h2 D.s18 (fun u Ru => ?_) (KF0 c l)
    have ok := Ru.ok
    have hz : (s.extract 0 18).size = 18 := by rw [ByteArray.size_extract]; have := D.s18; omega
    have K := thead_good c l s (s.extract 0 18) 0 0 s.size x u Ru.so Ru.led ok (rdb_yes (n := 18) hr hw (by have := D.s18; omega)) rfl hz (ck_extK s D.s18 12 D.c)
    rw [hA_ext s D.s18, work_one hr hw, Nat.zero_add] at K
    exact K.mono (fun e w' ⟨he, ⟨S, L⟩, t⟩ => ⟨he, ⟨S, L, stp_ok ok hr hw⟩, t⟩)
  · refine tdec_bad c l s x f p (wd s 12) (wd s 14) (1 + N) (4 * n + B) _ W R (fun u Ru => ?_)
    exact kh_short c l s x f (1 + N) u Ru hr (by omega) (.inr (by omega)) p (fun h => by have := D.s18; omega)

end Go.Proofs.YtnieeckdldpebaaGreat.Tr

/- Layer 19: Decode of a good head's file, class by class, by any ledger (written by wip/gen/trg.py). -/
namespace Go.Proofs.YtnieeckdldpebaaGreat.Tr
open Go.ChangeShapes Go.WideShapes Go.ChangeAt Go.RowKit
open Go.Proofs.YtnieeckdldpebaaGreat.Sc Go.Proofs.YtnieeckdldpebaaGreat.Le Go.Proofs.YtnieeckdldpebaaGreat.Pa Go.Proofs.YtnieeckdldpebaaGreat.Tk Go.Proofs.YtnieeckdldpebaaGreat.Tg Go.Proofs.YtnieeckdldpebaaGreat.Tp Go.Proofs.YtnieeckdldpebaaGreat.Ra
set_option linter.unusedVariables false

theorem td_none (s : ByteArray) (D : Hd s) (n : Nat) (hN : wd s 12 * wd s 14 = n) (hx : pln (bn s 2) ≠ 1) (hmp : mpB s = false) (mi : Int) (sz : Nat) (C : Nat → Nat → Int) (KD PL : Nat → Nat) (E : BothR (bn s 0) (bn s 2) (fst s) (cnt s) (ent s) (wd s 12) (wd s 14) (bn s 16) (alp s) false (lft s) (tpp s) mi s sz C KD PL) :
    TD s ⟨if 18 + bn s 0 ≤ s.size then (allZ KD PL sz s (decide (9 ≤ ((bn s 2 : Nat) : Int)) && decide (((bn s 2 : Nat) : Int) ≤ 11)) n (18 + bn s 0)).f else 1, if 18 + bn s 0 ≤ s.size then (allZ KD PL sz s (decide (9 ≤ ((bn s 2 : Nat) : Int)) && decide (((bn s 2 : Nat) : Int) ≤ 11)) n (18 + bn s 0)).p else s.size, wd s 12, wd s 14, 1 + (1 + if 18 + bn s 0 ≤ s.size then (allZ KD PL sz s (decide (9 ≤ ((bn s 2 : Nat) : Int)) && decide (((bn s 2 : Nat) : Int) ≤ 11)) n (18 + bn s 0)).n else 0), 4 * n + 0, rsl (plI (wd s 12) (wd s 14) (lft s) (tpp s)) (fB C) (allZ KD PL sz s (decide (9 ≤ ((bn s 2 : Nat) : Int)) && decide (((bn s 2 : Nat) : Int) ≤ 11)) n (18 + bn s 0)).l n⟩ :=
  td_good s D n _ _ _ _ C _ hN (fun c l u r cb g x1 B R hr O => by
    rw [hmp]
    exact kf_none (bn s 0) (bn s 2) (fst s) (cnt s) (ent s) (wd s 12) (wd s 14) (bn s 16) (alp s) n (lft s) (tpp s) mi s sz C KD PL E hN D.w1 D.w2 D.h2 (bn_lt s 2) hx D.s18 c l u r cb g x1 B R hr O)

theorem td_over (s : ByteArray) (D : Hd s) (n : Nat) (hN : wd s 12 * wd s 14 = n) (hx : pln (bn s 2) ≠ 1) (hmp : mpB s = true) (mi : Int) (sz : Nat) (C : Nat → Nat → Int) (KD PL : Nat → Nat) (E : BothR (bn s 0) (bn s 2) (fst s) (cnt s) (ent s) (wd s 12) (wd s 14) (bn s 16) (alp s) true (lft s) (tpp s) mi s sz C KD PL) (kd ez T : Nat) (EE : EC (ent s) kd ez T) :
    TD s ⟨if 18 + bn s 0 + cnt s * ez ≤ s.size then (allZ KD PL sz s (decide (9 ≤ ((bn s 2 : Nat) : Int)) && decide (((bn s 2 : Nat) : Int) ≤ 11)) n (18 + bn s 0 + cnt s * ez)).f else 1, if 18 + bn s 0 + cnt s * ez ≤ s.size then (allZ KD PL sz s (decide (9 ≤ ((bn s 2 : Nat) : Int)) && decide (((bn s 2 : Nat) : Int) ≤ 11)) n (18 + bn s 0 + cnt s * ez)).p else s.size, wd s 12, wd s 14, 1 + (2 + if 18 + bn s 0 + cnt s * ez ≤ s.size then (allZ KD PL sz s (decide (9 ≤ ((bn s 2 : Nat) : Int)) && decide (((bn s 2 : Nat) : Int) ≤ 11)) n (18 + bn s 0 + cnt s * ez)).n else 0), 4 * n + 0, rsl (plI (wd s 12) (wd s 14) (lft s) (tpp s)) (fB C) (allZ KD PL sz s (decide (9 ≤ ((bn s 2 : Nat) : Int)) && decide (((bn s 2 : Nat) : Int) ≤ 11)) n (18 + bn s 0 + cnt s * ez)).l n⟩ :=
  td_good s D n _ _ _ _ C _ hN (fun c l u r cb g x1 B R hr O => by
    rw [hmp]
    exact kf_over (bn s 0) (bn s 2) (fst s) (cnt s) (ent s) (wd s 12) (wd s 14) (bn s 16) (alp s) n (lft s) (tpp s) mi s sz C KD PL E kd ez T EE D.c2 hN D.w1 D.w2 D.h2 (bn_lt s 2) hx D.s18 c l u r cb g x1 B R hr O)

/-- The colours of a map. -/
def mapD (s : ByteArray) (ez T : Nat) (k j : Nat) : Int := entAt T s (18 + bn s 0 + k * ez) j
theorem td_mapped (s : ByteArray) (D : Hd s) (n : Nat) (hN : wd s 12 * wd s 14 = n) (hx : pln (bn s 2) = 1) (kd ez T : Nat) (EE : EC (ent s) kd ez T) :
    TD s ⟨if 18 + bn s 0 + cnt s * ez ≤ s.size then (allZ (mKn s (fst s) (cnt s)) (mPn s (fst s) (cnt s)) 1 s (decide (9 ≤ ((bn s 2 : Nat) : Int)) && decide (((bn s 2 : Nat) : Int) ≤ 11)) n (18 + bn s 0 + cnt s * ez)).f else 1, if 18 + bn s 0 + cnt s * ez ≤ s.size then (allZ (mKn s (fst s) (cnt s)) (mPn s (fst s) (cnt s)) 1 s (decide (9 ≤ ((bn s 2 : Nat) : Int)) && decide (((bn s 2 : Nat) : Int) ≤ 11)) n (18 + bn s 0 + cnt s * ez)).p else s.size, wd s 12, wd s 14, 1 + ((1 + cnt s) + if 18 + bn s 0 + cnt s * ez ≤ s.size then (allZ (mKn s (fst s) (cnt s)) (mPn s (fst s) (cnt s)) 1 s (decide (9 ≤ ((bn s 2 : Nat) : Int)) && decide (((bn s 2 : Nat) : Int) ≤ 11)) n (18 + bn s 0 + cnt s * ez)).n else 0), 4 * n + (4 * cnt s), rsl (plI (wd s 12) (wd s 14) (lft s) (tpp s)) (fB (mC s (fst s) (cnt s) (mapD s ez T))) (allZ (mKn s (fst s) (cnt s)) (mPn s (fst s) (cnt s)) 1 s (decide (9 ≤ ((bn s 2 : Nat) : Int)) && decide (((bn s 2 : Nat) : Int) ≤ 11)) n (18 + bn s 0 + cnt s * ez)).l n⟩ :=
  td_good s D n _ _ _ _ (mC s (fst s) (cnt s) (mapD s ez T)) _ hN (fun c l u r cb g x1 B R hr O =>
    kf_mapped (bn s 0) (bn s 2) (fst s) (cnt s) (ent s) (wd s 12) (wd s 14) (bn s 16) (alp s) n (mpB s) (lft s) (tpp s) s kd ez T EE D.c2 (D.c1 (D.m hx)) D.fs (mapD s ez T) (fun _ _ _ _ => rfl) (fun k j => entAt_bd _ _ _ _) hN D.w1 D.w2 D.h2 (bn_lt s 2) hx D.s18 c l u r cb g x1 B R hr O)

/-- Bounds of what a file asks for. -/
structure TB (s : ByteArray) (v : TV) : Prop where
  p : v.p ≤ s.size
  N : v.N ≤ 4 + cnt s + 3 * (wd s 12 * wd s 14) + 2
  B : v.B ≤ 4 * (wd s 12 * wd s 14) + 4 * cnt s
  w : v.w = wd s 12
  h : v.h = wd s 14
end Go.Proofs.YtnieeckdldpebaaGreat.Tr

/- The document's Sides of a TGA file (written by wip/gen/tri.py). -/
namespace Go.Proofs.YtnieeckdldpebaaGreat.Tr
open Go.ChangeShapes Go.WideShapes Go.ChangeAt Go.RowKit
open Go.Proofs.YtnieeckdldpebaaGreat.Sc Go.Proofs.YtnieeckdldpebaaGreat.Le Go.Proofs.YtnieeckdldpebaaGreat.Pa Go.Proofs.YtnieeckdldpebaaGreat.Tk Go.Proofs.YtnieeckdldpebaaGreat.Tg Go.Proofs.YtnieeckdldpebaaGreat.Tp Go.Proofs.YtnieeckdldpebaaGreat.Ra
set_option linter.unusedVariables false

theorem rsides_bad (s : ByteArray) (k p : Int) (hk : k ≠ 0) (KR0 : ∀ u, Calls Tryz.prog 22 #[.string s] u fun e w' => e = .returned (.agg #[.int .i64 0, .int .i64 0, .int .i64 0, .int .i64 0, .int .i64 0, .int .i64 0, .int .i64 0, .int .i64 0, .int .i64 0, .int .i64 0, .bool false, .bool false, .int .i64 k, .int .i64 p]) ∧ u.grownBy w' none) (W : World) :
    Calls Tryz.prog 7 #[.string s] W fun e w' => e = .returned (.tuple #[.int .i64 0, .int .i64 0, .int .i64 0]) ∧ W.grownBy w' none := by
  have KR := Lib.hid KR0
  clear KR0
  go_enter Tryz.func7, Tryz.ntmps7
  go_wp2_with fail
  refine (KR.out _).mono ?_
  rintro e w1 ⟨rfl, g1⟩
  have HG := Lib.hid g1
  clear g1
  go_wp2
  refine bodyPost_ret (v := .tuple #[.int .i64 0, .int .i64 0, .int .i64 0]) (by simp only [results, Tryz.results7]; go_simp) rfl ⟨rfl, gb_trans HG.out (World.grownBy_alloc _ _ none)⟩

theorem rsides_good (s : ByteArray) (n0 mi n3 n5 n8 n9 : Int) (x2 cn w h : Nat) (lf tp m : Bool) (hm : (((x2 : Int) == 1) || ((x2 : Int) == 9)) = m) (KR0 : ∀ u, Calls Tryz.prog 22 #[.string s] u fun e w' => e = .returned (.agg #[.int .i64 n0, .int .i64 mi, .int .i64 x2, .int .i64 n3, .int .i64 cn, .int .i64 n5, .int .i64 w, .int .i64 h, .int .i64 n8, .int .i64 n9, .bool lf, .bool tp, .int .i64 0, .int .i64 0]) ∧ u.grownBy w' none) (W : World) :
    Calls Tryz.prog 7 #[.string s] W fun e w' => e = .returned (.tuple #[.int .i64 w, .int .i64 h, .int .i64 (if m then (cn : Int) else 0)]) ∧ W.grownBy w' none := by
  have KR := Lib.hid KR0
  clear KR0
  cases m with
  | true =>
    rw [if_pos rfl]
    by_cases h1 : x2 = 1
    · subst h1
      clear hm
      go_enter Tryz.func7, Tryz.ntmps7
      go_wp2_with fail
      refine (KR.out _).mono ?_
      rintro e w1 ⟨rfl, g1⟩
      have HG := Lib.hid g1
      clear g1
      go_wp2_with fail
      go_region
      go_wp2
      refine bodyPost_ret (v := .tuple #[.int .i64 w, .int .i64 h, .int .i64 cn]) (by simp only [results, Tryz.results7]; go_simp) rfl ⟨rfl, by first | exact gb_trans (gb_trans HG.out (World.grownBy_alloc _ _ none)) (gb_drew _ _) | exact gb_trans HG.out (World.grownBy_alloc _ _ none)⟩
    · obtain rfl : x2 = 9 := by simp at hm; omega
      clear hm h1
      go_enter Tryz.func7, Tryz.ntmps7
      go_wp2_with fail
      refine (KR.out _).mono ?_
      rintro e w1 ⟨rfl, g1⟩
      have HG := Lib.hid g1
      clear g1
      go_wp2_with fail
      go_region
      go_wp2
      refine bodyPost_ret (v := .tuple #[.int .i64 w, .int .i64 h, .int .i64 cn]) (by simp only [results, Tryz.results7]; go_simp) rfl ⟨rfl, by first | exact gb_trans (gb_trans HG.out (World.grownBy_alloc _ _ none)) (gb_drew _ _) | exact gb_trans HG.out (World.grownBy_alloc _ _ none)⟩
  | false =>
    rw [if_neg Bool.false_ne_true]
    have h1 : ((x2 : Int) == 1) = false := by cases e : ((x2 : Int) == 1); rfl; rw [e] at hm; simp at hm
    have h9 : ((x2 : Int) == 9) = false := by cases e : ((x2 : Int) == 9); rfl; rw [e] at hm; simp at hm
    obtain ⟨y, hy⟩ : ∃ y : Int, (x2 : Int) = y := ⟨_, rfl⟩
    rw [hy] at h1 h9
    simp only [hy] at KR
    clear hm hy
    go_enter Tryz.func7, Tryz.ntmps7
    go_wp2_with fail
    refine (KR.out _).mono ?_
    rintro e w1 ⟨rfl, g1⟩
    have HG := Lib.hid g1
    clear g1
    go_wp2_with fail
    go_region
    go_wp2
    refine bodyPost_ret (v := .tuple #[.int .i64 w, .int .i64 h, .int .i64 0]) (by simp only [results, Tryz.results7]; go_simp) rfl ⟨rfl, by first | exact gb_trans (gb_trans HG.out (World.grownBy_alloc _ _ none)) (gb_drew _ _) | exact gb_trans HG.out (World.grownBy_alloc _ _ none)⟩

end Go.Proofs.YtnieeckdldpebaaGreat.Tr
