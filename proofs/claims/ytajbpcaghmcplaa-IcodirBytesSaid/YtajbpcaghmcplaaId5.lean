/- Layer 24: the code's Read, the entries (written by wip/gen/id4.py). -/
import Derived.Test.YtajbpcaghmcplaaId4
import Derived.Deep.Cut
namespace Go.Proofs.Ytajbpcaghmcplaa.Id
open Go.ChangeShapes Go.WideShapes Go.ChangeAt Go.RowKit
open Go.Proofs.Ytajbpcaghmcplaa.Le Go.Proofs.Ytajbpcaghmcplaa.Sr Go.Proofs.Ytajbpcaghmcplaa.Dh
set_option linter.unusedVariables false

theorem quiet_w {P : Program} {f : FuncId} {args : Array Value} {w : World} {n : Nat} {v : Value}
    (h : Calls P f args (w.drewN n) fun e w' => e = .returned v ∧ w.drewN n = w') : Calls P f args (w.drewN n) fun e w'' => e = .returned v ∧ ∃ m, w'' = w.drewN m :=
  h.mono fun _ _ ⟨he, hm⟩ => ⟨he, n, hm.symm⟩
/-- The entry's block besides. -/
structure De (W : World) (b l D E : Nat) (B A : Array Value) (w : World) : Prop where
  di : Di W b l D B w
  e : w.heap[E]? = some (.cells A 33 (0, 0))
  lt : D < E
theorem Di.de {W w : World} {b l D : Nat} {B A : Array Value} (h : Di W b l D B w) : De W b l D w.heap.size B A (w.alloc (.cells A 33)) :=
  ⟨⟨blk_al h.r _, blk_al h.f _, blk_al h.d _, h.lt, h.t.trans (Tn.gb (World.grownBy_alloc _ _ none) (by simp))⟩, blk_at, blk_lt h.d⟩
theorem De.gb {W w w' : World} {b l D E : Nat} {B A : Array Value} (h : De W b l D E B A w) (hb : b < W.heap.size) (hl : l < W.heap.size) (g : w.grownBy w' none) : De W b l D E B A w' :=
  ⟨h.di.gb hb hl g, old0 g h.e (blk_lt h.e) (by simp), h.lt⟩
theorem De.set {W w : World} {b l D E : Nat} {B A : Array Value} (h : De W b l D E B A w) (i : Nat) (v : Value) : De W b l D E B (A.set! i v) (w.setCell ⟨E, i, none⟩ v) :=
  have h1 := h.lt
  have h2 := h.di.lt
  ⟨⟨blk_other h.di.r (by omega), blk_other h.di.f (by omega), blk_other h.di.d (by omega), h2, tn_own1 h.di.t (by omega)⟩, blk_set h.e i v, h1⟩

theorem De.best {W w : World} {b l D E : Nat} {A : Array Value} {cu : Bool} {c r wx hx ax bx sx px : Nat} (h : De W b l D E (dB cu c r wx hx ax bx sx px) A w) (i w1 h1 a1 b1 s1 pp : Nat) : Di W b l D (dB cu c i w1 h1 a1 b1 s1 pp) (((((((w.setCell ⟨D, 2, none⟩ (.int .i64 (i : Nat))).setCell ⟨D, 3, none⟩ (.int .i64 (w1 : Nat))).setCell ⟨D, 4, none⟩ (.int .i64 (h1 : Nat))).setCell ⟨D, 5, none⟩ (.int .i64 (a1 : Nat))).setCell ⟨D, 6, none⟩ (.int .i64 (b1 : Nat))).setCell ⟨D, 7, none⟩ (.int .i64 (s1 : Nat))).setCell ⟨D, 8, none⟩ (.int .i64 (pp : Nat))).drew := by
  have q1 := h.di.lt
  have r0 := h.di.r
  have r1 := blk_other (c := D) (o := 2) (v := .int .i64 (i : Nat)) r0 (by omega)
  have r2 := blk_other (c := D) (o := 3) (v := .int .i64 (w1 : Nat)) r1 (by omega)
  have r3 := blk_other (c := D) (o := 4) (v := .int .i64 (h1 : Nat)) r2 (by omega)
  have r4 := blk_other (c := D) (o := 5) (v := .int .i64 (a1 : Nat)) r3 (by omega)
  have r5 := blk_other (c := D) (o := 6) (v := .int .i64 (b1 : Nat)) r4 (by omega)
  have r6 := blk_other (c := D) (o := 7) (v := .int .i64 (s1 : Nat)) r5 (by omega)
  have r7 := blk_other (c := D) (o := 8) (v := .int .i64 (pp : Nat)) r6 (by omega)
  have f0 := h.di.f
  have f1 := blk_other (c := D) (o := 2) (v := .int .i64 (i : Nat)) f0 (by omega)
  have f2 := blk_other (c := D) (o := 3) (v := .int .i64 (w1 : Nat)) f1 (by omega)
  have f3 := blk_other (c := D) (o := 4) (v := .int .i64 (h1 : Nat)) f2 (by omega)
  have f4 := blk_other (c := D) (o := 5) (v := .int .i64 (a1 : Nat)) f3 (by omega)
  have f5 := blk_other (c := D) (o := 6) (v := .int .i64 (b1 : Nat)) f4 (by omega)
  have f6 := blk_other (c := D) (o := 7) (v := .int .i64 (s1 : Nat)) f5 (by omega)
  have f7 := blk_other (c := D) (o := 8) (v := .int .i64 (pp : Nat)) f6 (by omega)
  have t0 := h.di.t
  have t1 := tn_own1 (k := D) (i := 2) (v := .int .i64 (i : Nat)) t0 (by omega)
  have t2 := tn_own1 (k := D) (i := 3) (v := .int .i64 (w1 : Nat)) t1 (by omega)
  have t3 := tn_own1 (k := D) (i := 4) (v := .int .i64 (h1 : Nat)) t2 (by omega)
  have t4 := tn_own1 (k := D) (i := 5) (v := .int .i64 (a1 : Nat)) t3 (by omega)
  have t5 := tn_own1 (k := D) (i := 6) (v := .int .i64 (b1 : Nat)) t4 (by omega)
  have t6 := tn_own1 (k := D) (i := 7) (v := .int .i64 (s1 : Nat)) t5 (by omega)
  have t7 := tn_own1 (k := D) (i := 8) (v := .int .i64 (pp : Nat)) t6 (by omega)
  have d0 := h.di.d
  have d1 : (w.setCell ⟨D, 2, none⟩ (.int .i64 (i : Nat))).heap[D]? = some (.cells (dB cu c i wx hx ax bx sx px) 35 (0, 0)) := blk_set d0 2 (.int .i64 (i : Nat))
  have d2 : ((w.setCell ⟨D, 2, none⟩ (.int .i64 (i : Nat))).setCell ⟨D, 3, none⟩ (.int .i64 (w1 : Nat))).heap[D]? = some (.cells (dB cu c i w1 hx ax bx sx px) 35 (0, 0)) := blk_set d1 3 (.int .i64 (w1 : Nat))
  have d3 : (((w.setCell ⟨D, 2, none⟩ (.int .i64 (i : Nat))).setCell ⟨D, 3, none⟩ (.int .i64 (w1 : Nat))).setCell ⟨D, 4, none⟩ (.int .i64 (h1 : Nat))).heap[D]? = some (.cells (dB cu c i w1 h1 ax bx sx px) 35 (0, 0)) := blk_set d2 4 (.int .i64 (h1 : Nat))
  have d4 : ((((w.setCell ⟨D, 2, none⟩ (.int .i64 (i : Nat))).setCell ⟨D, 3, none⟩ (.int .i64 (w1 : Nat))).setCell ⟨D, 4, none⟩ (.int .i64 (h1 : Nat))).setCell ⟨D, 5, none⟩ (.int .i64 (a1 : Nat))).heap[D]? = some (.cells (dB cu c i w1 h1 a1 bx sx px) 35 (0, 0)) := blk_set d3 5 (.int .i64 (a1 : Nat))
  have d5 : (((((w.setCell ⟨D, 2, none⟩ (.int .i64 (i : Nat))).setCell ⟨D, 3, none⟩ (.int .i64 (w1 : Nat))).setCell ⟨D, 4, none⟩ (.int .i64 (h1 : Nat))).setCell ⟨D, 5, none⟩ (.int .i64 (a1 : Nat))).setCell ⟨D, 6, none⟩ (.int .i64 (b1 : Nat))).heap[D]? = some (.cells (dB cu c i w1 h1 a1 b1 sx px) 35 (0, 0)) := blk_set d4 6 (.int .i64 (b1 : Nat))
  have d6 : ((((((w.setCell ⟨D, 2, none⟩ (.int .i64 (i : Nat))).setCell ⟨D, 3, none⟩ (.int .i64 (w1 : Nat))).setCell ⟨D, 4, none⟩ (.int .i64 (h1 : Nat))).setCell ⟨D, 5, none⟩ (.int .i64 (a1 : Nat))).setCell ⟨D, 6, none⟩ (.int .i64 (b1 : Nat))).setCell ⟨D, 7, none⟩ (.int .i64 (s1 : Nat))).heap[D]? = some (.cells (dB cu c i w1 h1 a1 b1 s1 px) 35 (0, 0)) := blk_set d5 7 (.int .i64 (s1 : Nat))
  have d7 : (((((((w.setCell ⟨D, 2, none⟩ (.int .i64 (i : Nat))).setCell ⟨D, 3, none⟩ (.int .i64 (w1 : Nat))).setCell ⟨D, 4, none⟩ (.int .i64 (h1 : Nat))).setCell ⟨D, 5, none⟩ (.int .i64 (a1 : Nat))).setCell ⟨D, 6, none⟩ (.int .i64 (b1 : Nat))).setCell ⟨D, 7, none⟩ (.int .i64 (s1 : Nat))).setCell ⟨D, 8, none⟩ (.int .i64 (pp : Nat))).heap[D]? = some (.cells (dB cu c i w1 h1 a1 b1 s1 pp) 35 (0, 0)) := blk_set d6 8 (.int .i64 (pp : Nat))
  refine ⟨?_, ?_, ?_, q1, t7.trans (Tn.drew _ _)⟩
  · rw [drew_heap]; exact r7
  · rw [drew_heap]; exact f7
  · rw [drew_heap]; exact d7

theorem Sl.best {b l : Nat} {T : ByteArray} {q f t : Nat} {x : St} {w : World} {D : Nat} (h : Sl b l T q f t x w) (hb : b ≠ D) (hl : l ≠ D) (v2 v3 v4 v5 v6 v7 v8 : Value) : Sl b l T q f t x (((((((w.setCell ⟨D, 2, none⟩ v2).setCell ⟨D, 3, none⟩ v3).setCell ⟨D, 4, none⟩ v4).setCell ⟨D, 5, none⟩ v5).setCell ⟨D, 6, none⟩ v6).setCell ⟨D, 7, none⟩ v7).setCell ⟨D, 8, none⟩ v8).drew := ((((((((h).st hb hl).st hb hl).st hb hl).st hb hl).st hb hl).st hb hl).st hb hl).dr

/-- How it ends. -/
def EndK (T : ByteArray) (p : Nat) (cu : Bool) (c K n q : Nat) (dv fv : Array Value) : Prop :=
  (K = c ∧ n = 1 + c ∧ q = qE p c ∧ dv = dirV T p cu c ∧ fv = #[.int .i64 0, .int .i64 0, .int .i64 0]) ∨
  (K < c ∧ T.size < qE p K + 16 ∧ n = 2 + K ∧ q = qE p K ∧ dv = Z9 ∧ fv = #[.int .i64 1, .int .i64 4, .int .i64 (T.size : Nat)]) ∨
  (K < c ∧ qE p K + 16 ≤ T.size ∧ n = 2 + K ∧ q = qE p K + 16 ∧ dv = Z9 ∧ fv = #[.int .i64 2, .int .i64 4, .int .i64 ((qE p K + 12 : Nat))])
theorem end_ex (T : ByteArray) (p : Nat) (cu : Bool) (c K : Nat) (h : FK T p c K) : ∃ (n q : Nat) (dv fv : Array Value), EndK T p cu c K n q dv fv := by
  have := h.le
  by_cases h1 : K = c
  · exact ⟨_, _, _, _, .inl ⟨h1, rfl, rfl, rfl, rfl⟩⟩
  · by_cases h2 : T.size < qE p K + 16
    · exact ⟨_, _, _, _, .inr (.inl ⟨by omega, h2, rfl, rfl, rfl, rfl⟩)⟩
    · exact ⟨_, _, _, _, .inr (.inr ⟨by omega, by omega, rfl, rfl, rfl, rfl⟩)⟩

set_option maxRecDepth 100000 in
set_option maxHeartbeats 4000000 in
theorem read_loop (b l : Nat) (T : ByteArray) (p f : Nat) (x : St) (W : World) (hS : Sl b l T p f T.size x W) (hr : x.r = 0) (hst : x.st + 1 ≤ x.s) (hbg : T.size ≤ 4611686018427387904) (hle : p + 6 ≤ T.size) (z : ByteArray) (hz : T.extract p (p + 6) = z) (hw : wrB z = false) (c : Nat) (hc : w2 z 4 = c) (cu : Bool) (hcu : (((w2 z 2 : Nat) : Int) == 2) = cu) (K : Nat) (hK : FK T p c K) (n q : Nat) (dv fv : Array Value) (hend : EndK T p cu c K n q dv fv) :
    Calls Try.prog 10 #[.pointer (some ⟨b, 0, none⟩)] W (RE b l T p f n q x dv fv W) := by
  have hblt := hS.so.lt
  have hllt := hS.led.lt
  have hbl := hS.so.bl
  have hpt := hS.so.pt
  have hbig := hS.so.big
  have hzs : z.size = 6 := by rw [← hz, ByteArray.size_extract]; omega
  have KW0 := fun u => wrong_calls z hzs u
  rw [hw] at KW0
  have KW := Lib.hid KW0
  have KC0 := fun u => pair_calls z 2 (by omega) (by omega) u
  have KN0 := fun u => pair_calls z 4 (by omega) (by omega) u
  have hcb := w2_lt z 4
  rw [hc] at KN0 hcb
  obtain ⟨ty, hty⟩ : ∃ t : Int, ((w2 z 2 : Nat) : Int) = t := ⟨_, rfl⟩
  rw [hty] at KC0 hcu
  have KC := Lib.hid KC0
  have KN := Lib.hid KN0
  obtain ⟨en, hen⟩ : ∃ e, 6 + 16 * c = e := ⟨_, rfl⟩
  have KE0 := fun u => end_calls c (by omega) u
  rw [hen] at KE0
  have KE := Lib.hid KE0
  clear KW0 KC0 KN0 KE0 hc hty
  have HEND := Lib.hid hend
  have HFK := Lib.hid hK
  have hKc := hK.le
  clear hend hK
  go_enter Try.func10, Try.ntmps10
  go_upto_region 1 with fail
  have I0 : Dj W b l _ := Dj.new
  unfold Z9 at I0
  have HS0 := Lib.hid (hS.grown (gb_trans (World.grownBy_alloc W (.cells #[.bool false, .int .i64 0, .int .i64 0, .int .i64 0, .int .i64 0, .int .i64 0, .int .i64 0, .int .i64 0, .int .i64 0] 35) none) (World.grownBy_alloc (W.alloc (.cells #[.bool false, .int .i64 0, .int .i64 0, .int .i64 0, .int .i64 0, .int .i64 0, .int .i64 0, .int .i64 0, .int .i64 0] 35)) (.cells #[.int .i64 0, .int .i64 0, .int .i64 0] 37) none)))
  generalize ((W.alloc (.cells #[.bool false, .int .i64 0, .int .i64 0, .int .i64 0, .int .i64 0, .int .i64 0, .int .i64 0, .int .i64 0, .int .i64 0] 35)).alloc (.cells #[.int .i64 0, .int .i64 0, .int .i64 0] 37)) = w0 at I0 HS0 ⊢
  have HI0 := Lib.hid I0
  clear hS I0
  go_wp2_with fail
  refine (at_calls b l T p f _ _ HS0.out.so).mono ?_
  rintro e w' ⟨rfl, rfl⟩
  go_wp2_with fail
  refine (HS0.out.take (by first | exact hr | rfl) hst 6 hle).mono ?_
  rintro e w1 ⟨rfl, S9, t9⟩
  have HI1 := Lib.hid (HI0.out.turned hblt hllt t9)
  have HS1 := Lib.hid S9
  clear S9 t9 HI0 HS0
  rw [hz]
  clear hz hzs hw
  go_wp2_with fail
  refine (KW.out _).mono ?_
  rintro e w' ⟨rfl, rfl⟩
  go_wp2_with fail
  refine (KC.out _).mono ?_
  rintro e w' ⟨rfl, rfl⟩
  go_wp2_with fail
  refine (KN.out _).mono ?_
  rintro e w' ⟨rfl, rfl⟩
  go_upto_region 9 with fail
  have I2 : Di W b l w1.heap.size (dB cu c 0 0 0 0 0 0 0) _ := HI1.out.di
  have S2 := HS1.out.grown (World.grownBy_alloc w1 (.cells (dB cu c 0 0 0 0 0 0 0) 35) none)
  unfold dB at I2 S2
  obtain ⟨D, hD⟩ : ∃ D, w1.heap.size = D := ⟨_, rfl⟩
  rw [hD] at I2 ⊢
  generalize w1.alloc _ = w2 at I2 S2 ⊢
  clear hD HI1 HS1 KW KC KN
  have HI2 := Lib.hid (show Di W b l D (dB cu c 0 0 0 0 0 0 0) w2 from I2)
  have HS2 := Lib.hid S2
  have hDW : W.heap.size + 1 < D := I2.lt
  have d1 : w2.cell? ⟨D, 1, none⟩ = some (.int .i64 (c : Nat)) := blk_cell I2.d 1
  clear I2 S2
  go_wp2_with fail
  clear d1
  go_loopg [46] c (fun m iv wr => ∃ i r wx hx ax bx sx px : Nat, i ≤ K ∧ bst T p cu i = r ∧ cW T p cu i = wx ∧ cH T p cu i = hx ∧ cA T p cu i = ax ∧ cB T p cu i = bx ∧ cS T p cu i = sx ∧ cP T p cu i = px ∧ Di W b l D (dB cu c r wx hx ax bx sx px) wr ∧ Sl b l T (qE p i) f T.size (stp x (1 + i)) wr ∧ m = c - i ∧ iv = .int .i64 (i : Nat))
  case atStart => exact ⟨0, 0, 0, 0, 0, 0, 0, 0, Nat.zero_le _, rfl, rfl, rfl, rfl, rfl, rfl, rfl, HI2.out, HS2.out, rfl, rfl⟩
  case round =>
    obtain ⟨i, r, wx, hx, ax, bx, sx, px, hiK, er, ew, eh, ea, eb, es, ep, hI, hS, rfl, rfl⟩ := hrel
    clear HI2 HS2
    have HI := Lib.hid hI
    have HS := Lib.hid hS
    by_cases hic : i = c
    · obtain ⟨-, rfl, rfl, rfl, rfl⟩ | ⟨h9, _⟩ | ⟨h9, _⟩ := HEND.out
      rotate_left
      · omega
      · omega
      subst hic
      have r0 := blk_cell hI.r 0
      have rz0 := blk_free hI.r 0
      have r1 := blk_cell hI.r 1
      have rz1 := blk_free hI.r 1
      have r2 := blk_cell hI.r 2
      have rz2 := blk_free hI.r 2
      have r3 := blk_cell hI.r 3
      have rz3 := blk_free hI.r 3
      have r4 := blk_cell hI.r 4
      have rz4 := blk_free hI.r 4
      have r5 := blk_cell hI.r 5
      have rz5 := blk_free hI.r 5
      have r6 := blk_cell hI.r 6
      have rz6 := blk_free hI.r 6
      have r7 := blk_cell hI.r 7
      have rz7 := blk_free hI.r 7
      have r8 := blk_cell hI.r 8
      have rz8 := blk_free hI.r 8
      have f0 := blk_cell hI.f 0
      have fz0 := blk_free hI.f 0
      have f1 := blk_cell hI.f 1
      have fz1 := blk_free hI.f 1
      have f2 := blk_cell hI.f 2
      have fz2 := blk_free hI.f 2
      simp only [Z9, List.getElem?_toArray, List.getElem?_cons_succ, List.getElem?_cons_zero] at r0 r1 r2 r3 r4 r5 r6 r7 r8 f0 f1 f2
      have lr := blk_lt hI.r
      have lf := blk_lt hI.f
      have d0 := blk_cell hI.d 0
      have dz0 := blk_free hI.d 0
      have d1 := blk_cell hI.d 1
      have dz1 := blk_free hI.d 1
      have d2 := blk_cell hI.d 2
      have dz2 := blk_free hI.d 2
      have d3 := blk_cell hI.d 3
      have dz3 := blk_free hI.d 3
      have d4 := blk_cell hI.d 4
      have dz4 := blk_free hI.d 4
      have d5 := blk_cell hI.d 5
      have dz5 := blk_free hI.d 5
      have d6 := blk_cell hI.d 6
      have dz6 := blk_free hI.d 6
      have d7 := blk_cell hI.d 7
      have dz7 := blk_free hI.d 7
      have d8 := blk_cell hI.d 8
      have dz8 := blk_free hI.d 8
      simp only [dB, List.getElem?_toArray, List.getElem?_cons_succ, List.getElem?_cons_zero] at d0 d1 d2 d3 d4 d5 d6 d7 d8
      have dl := blk_lt hI.d
      have hdv : dirV T p cu i = #[.bool cu, .int .i64 (i : Nat), .int .i64 (r : Nat), .int .i64 (wx : Nat), .int .i64 (hx : Nat), .int .i64 (ax : Nat), .int .i64 (bx : Nat), .int .i64 (sx : Nat), .int .i64 (px : Nat)] := by
        unfold dirV dB
        rw [er, ew, eh, ea, eb, es, ep]
      have HDV := Lib.hid hdv
      clear hdv
      have hsi := hS.ok.ts
      clear hI hS HEND HFK KE
      go_wp2
      refine bodyPost_ret (v := .tuple #[.agg #[.bool cu, .int .i64 (i : Nat), .int .i64 (r : Nat), .int .i64 (wx : Nat), .int .i64 (hx : Nat), .int .i64 (ax : Nat), .int .i64 (bx : Nat), .int .i64 (sx : Nat), .int .i64 (px : Nat)], .agg #[.int .i64 0, .int .i64 0, .int .i64 0]]) (by simp only [results, Try.results10]; go_simp) rfl ?_
      exact .inl ⟨by have : x.st + ((1 + i : Nat) : Int) ≤ x.s := hsi; exact this, by rw [HDV.out], ((((((((((((HS.out).st (by omega) (by omega)).st (by omega) (by omega)).st (by omega) (by omega)).st (by omega) (by omega)).st (by omega) (by omega)).st (by omega) (by omega)).st (by omega) (by omega)).st (by omega) (by omega)).st (by omega) (by omega)).st (by omega) (by omega)).st (by omega) (by omega)).st (by omega) (by omega), tn_own1 (tn_own1 (tn_own1 (tn_own1 (tn_own1 (tn_own1 (tn_own1 (tn_own1 (tn_own1 (tn_own1 (tn_own1 (tn_own1 (HI.out.t) (by omega)) (by omega)) (by omega)) (by omega)) (by omega)) (by omega)) (by omega)) (by omega)) (by omega)) (by omega)) (by omega)) (by omega)⟩
    have hlt : i < c := by omega
    have hlti : (i : Int) < (c : Int) := by omega
    obtain ⟨Q, hQ⟩ : ∃ Q, qE p i = Q := ⟨_, rfl⟩
    have hQ2 : Q = p + 6 + 16 * i := hQ.symm
    rw [hQ] at hS
    have HS := Lib.hid hS
    have HQ := Lib.hid hQ2
    have hQT := hS.so.pt
    have hst2 : (stp x (1 + i)).r = 0 := hr
    have r0 := blk_cell hI.r 0
    have rz0 := blk_free hI.r 0
    have r1 := blk_cell hI.r 1
    have rz1 := blk_free hI.r 1
    have r2 := blk_cell hI.r 2
    have rz2 := blk_free hI.r 2
    have r3 := blk_cell hI.r 3
    have rz3 := blk_free hI.r 3
    have r4 := blk_cell hI.r 4
    have rz4 := blk_free hI.r 4
    have r5 := blk_cell hI.r 5
    have rz5 := blk_free hI.r 5
    have r6 := blk_cell hI.r 6
    have rz6 := blk_free hI.r 6
    have r7 := blk_cell hI.r 7
    have rz7 := blk_free hI.r 7
    have r8 := blk_cell hI.r 8
    have rz8 := blk_free hI.r 8
    have f0 := blk_cell hI.f 0
    have fz0 := blk_free hI.f 0
    have f1 := blk_cell hI.f 1
    have fz1 := blk_free hI.f 1
    have f2 := blk_cell hI.f 2
    have fz2 := blk_free hI.f 2
    simp only [Z9, List.getElem?_toArray, List.getElem?_cons_succ, List.getElem?_cons_zero] at r0 r1 r2 r3 r4 r5 r6 r7 r8 f0 f1 f2
    have lr := blk_lt hI.r
    have lf := blk_lt hI.f
    have d0 := blk_cell hI.d 0
    have dz0 := blk_free hI.d 0
    have d1 := blk_cell hI.d 1
    have dz1 := blk_free hI.d 1
    have d2 := blk_cell hI.d 2
    have dz2 := blk_free hI.d 2
    have d3 := blk_cell hI.d 3
    have dz3 := blk_free hI.d 3
    have d4 := blk_cell hI.d 4
    have dz4 := blk_free hI.d 4
    have d5 := blk_cell hI.d 5
    have dz5 := blk_free hI.d 5
    have d6 := blk_cell hI.d 6
    have dz6 := blk_free hI.d 6
    have d7 := blk_cell hI.d 7
    have dz7 := blk_free hI.d 7
    have d8 := blk_cell hI.d 8
    have dz8 := blk_free hI.d 8
    simp only [dB, List.getElem?_toArray, List.getElem?_cons_succ, List.getElem?_cons_zero] at d0 d1 d2 d3 d4 d5 d6 d7 d8
    have dl := blk_lt hI.d
    have HW := Lib.hid hI.lt
    clear hic hI hS hQ2
    go_wp2_with fail
    refine (at_calls b l T Q f _ _ HS.out.so).mono ?_
    rintro e w' ⟨rfl, rfl⟩
    go_wp2_with fail
    by_cases hsp : x.s < x.st + ((2 + i : Nat) : Int)
    · refine (HS.out.over hr (by show x.s < x.st + ((1 + i : Nat) : Int) + 1; omega) 16).mono ?_
      rintro e w3 ⟨rfl, S9, t9⟩
      have I3 := HI.out.turned hblt hllt t9
      have HS3 := Lib.hid S9
      clear r0 rz0 r1 rz1 r2 rz2 r3 rz3 r4 rz4 r5 rz5 r6 rz6 r7 rz7 r8 rz8 f0 fz0 f1 fz1 f2 fz2 lr lf
      clear d0 dz0 d1 dz1 d2 dz2 d3 dz3 d4 dz4 d5 dz5 d6 dz6 d7 dz7 d8 dz8
      clear S9 t9
      go_wp2_with fail
      refine (HS3.out.fault4 4).mono ?_
      rintro e w4 ⟨rfl, g4⟩
      have I4 := I3.gb hblt hllt g4
      have HS4 := Lib.hid (HS3.out.grown g4)
      clear g4 I3 HS3
      have r0 := blk_cell I4.r 0
      have rz0 := blk_free I4.r 0
      have r1 := blk_cell I4.r 1
      have rz1 := blk_free I4.r 1
      have r2 := blk_cell I4.r 2
      have rz2 := blk_free I4.r 2
      have r3 := blk_cell I4.r 3
      have rz3 := blk_free I4.r 3
      have r4 := blk_cell I4.r 4
      have rz4 := blk_free I4.r 4
      have r5 := blk_cell I4.r 5
      have rz5 := blk_free I4.r 5
      have r6 := blk_cell I4.r 6
      have rz6 := blk_free I4.r 6
      have r7 := blk_cell I4.r 7
      have rz7 := blk_free I4.r 7
      have r8 := blk_cell I4.r 8
      have rz8 := blk_free I4.r 8
      have f0 := blk_cell I4.f 0
      have fz0 := blk_free I4.f 0
      have f1 := blk_cell I4.f 1
      have fz1 := blk_free I4.f 1
      have f2 := blk_cell I4.f 2
      have fz2 := blk_free I4.f 2
      simp only [Z9, List.getElem?_toArray, List.getElem?_cons_succ, List.getElem?_cons_zero] at r0 r1 r2 r3 r4 r5 r6 r7 r8 f0 f1 f2
      have lr := blk_lt I4.r
      have lf := blk_lt I4.f
      have HI4 := Lib.hid I4
      have HN := Lib.hid (show 2 + i ≤ n from by obtain ⟨_, h, _⟩ | ⟨_, _, h, _⟩ | ⟨_, _, h, _⟩ := HEND.out <;> omega)
      clear I4 HEND
      go_wp2
      refine bodyPost_ret (v := .tuple #[.agg #[.bool false, .int .i64 0, .int .i64 0, .int .i64 0, .int .i64 0, .int .i64 0, .int .i64 0, .int .i64 0, .int .i64 0], .agg #[.int .i64 4, .int .i64 4, .int .i64 (Q : Nat)]]) (by simp only [results, Try.results10]; go_simp) rfl ?_
      exact .inr ⟨by have := HN.out; omega, Q, by have := HQ.out; omega, hQT, rfl, ((((((((((((HS4.out).st (by omega) (by omega)).st (by omega) (by omega)).st (by omega) (by omega)).st (by omega) (by omega)).st (by omega) (by omega)).st (by omega) (by omega)).st (by omega) (by omega)).st (by omega) (by omega)).st (by omega) (by omega)).st (by omega) (by omega)).st (by omega) (by omega)).st (by omega) (by omega), tn_own1 (tn_own1 (tn_own1 (tn_own1 (tn_own1 (tn_own1 (tn_own1 (tn_own1 (tn_own1 (tn_own1 (tn_own1 (tn_own1 (HI4.out.t) (by omega)) (by omega)) (by omega)) (by omega)) (by omega)) (by omega)) (by omega)) (by omega)) (by omega)) (by omega)) (by omega)) (by omega)⟩
    have hst3 : (stp x (1 + i)).st + 1 ≤ (stp x (1 + i)).s := by show x.st + ((1 + i : Nat) : Int) + 1 ≤ x.s; omega
    have hst4 : x.st + ((2 + i : Nat) : Int) ≤ x.s := by omega
    clear hsp
    by_cases hsh : T.size < Q + 16
    · have hKi : K = i := by
        by_cases h : i < K
        · have := (HFK.out.yes i h).1
          rw [hQ] at this
          omega
        · omega
      subst hKi
      obtain ⟨h9, _⟩ | ⟨-, -, rfl, hq, rfl, rfl⟩ | ⟨_, h9, _⟩ := HEND.out
      · omega
      rotate_left
      · rw [hQ] at h9; omega
      rw [hQ] at hq
      refine (HS.out.short hr hst3 16 hsh).mono ?_
      rintro e w3 ⟨rfl, S9, t9⟩
      rw [stp_stp, show 1 + K + 1 = 2 + K from by omega] at S9
      have I3 := HI.out.turned hblt hllt t9
      have HS3 := Lib.hid S9
      clear r0 rz0 r1 rz1 r2 rz2 r3 rz3 r4 rz4 r5 rz5 r6 rz6 r7 rz7 r8 rz8 f0 fz0 f1 fz1 f2 fz2 lr lf
      clear d0 dz0 d1 dz1 d2 dz2 d3 dz3 d4 dz4 d5 dz5 d6 dz6 d7 dz7 d8 dz8
      clear S9 t9
      go_wp2_with fail
      refine (HS3.out.fault1 hr 4).mono ?_
      rintro e w4 ⟨rfl, g4⟩
      have I4 := I3.gb hblt hllt g4
      have HS4 := Lib.hid (HS3.out.grown g4)
      clear g4 I3 HS3
      have r0 := blk_cell I4.r 0
      have rz0 := blk_free I4.r 0
      have r1 := blk_cell I4.r 1
      have rz1 := blk_free I4.r 1
      have r2 := blk_cell I4.r 2
      have rz2 := blk_free I4.r 2
      have r3 := blk_cell I4.r 3
      have rz3 := blk_free I4.r 3
      have r4 := blk_cell I4.r 4
      have rz4 := blk_free I4.r 4
      have r5 := blk_cell I4.r 5
      have rz5 := blk_free I4.r 5
      have r6 := blk_cell I4.r 6
      have rz6 := blk_free I4.r 6
      have r7 := blk_cell I4.r 7
      have rz7 := blk_free I4.r 7
      have r8 := blk_cell I4.r 8
      have rz8 := blk_free I4.r 8
      have f0 := blk_cell I4.f 0
      have fz0 := blk_free I4.f 0
      have f1 := blk_cell I4.f 1
      have fz1 := blk_free I4.f 1
      have f2 := blk_cell I4.f 2
      have fz2 := blk_free I4.f 2
      simp only [Z9, List.getElem?_toArray, List.getElem?_cons_succ, List.getElem?_cons_zero] at r0 r1 r2 r3 r4 r5 r6 r7 r8 f0 f1 f2
      have lr := blk_lt I4.r
      have lf := blk_lt I4.f
      have HI4 := Lib.hid I4
      have Hq := Lib.hid hq
      clear I4 HEND hq
      go_wp2
      refine bodyPost_ret (v := .tuple #[.agg #[.bool false, .int .i64 0, .int .i64 0, .int .i64 0, .int .i64 0, .int .i64 0, .int .i64 0, .int .i64 0, .int .i64 0], .agg #[.int .i64 1, .int .i64 4, .int .i64 (T.size : Nat)]]) (by simp only [results, Try.results10]; go_simp) rfl ?_
      exact .inl ⟨hst4, rfl, Hq.out ▸ ((((((((((((HS4.out).st (by omega) (by omega)).st (by omega) (by omega)).st (by omega) (by omega)).st (by omega) (by omega)).st (by omega) (by omega)).st (by omega) (by omega)).st (by omega) (by omega)).st (by omega) (by omega)).st (by omega) (by omega)).st (by omega) (by omega)).st (by omega) (by omega)).st (by omega) (by omega), tn_own1 (tn_own1 (tn_own1 (tn_own1 (tn_own1 (tn_own1 (tn_own1 (tn_own1 (tn_own1 (tn_own1 (tn_own1 (tn_own1 (HI4.out.t) (by omega)) (by omega)) (by omega)) (by omega)) (by omega)) (by omega)) (by omega)) (by omega)) (by omega)) (by omega)) (by omega)) (by omega)⟩
    have hln : Q + 16 ≤ T.size := by omega
    clear hsh
    refine (HS.out.take hr hst3 16 hln).mono ?_
    rintro e w3 ⟨rfl, S9, t9⟩
    rw [stp_stp, show 1 + i + 1 = 2 + i from by omega] at S9
    have I3 := HI.out.turned hblt hllt t9
    have HI3 := Lib.hid I3
    have HS3 := Lib.hid S9
    clear r0 rz0 r1 rz1 r2 rz2 r3 rz3 r4 rz4 r5 rz5 r6 rz6 r7 rz7 r8 rz8 f0 fz0 f1 fz1 f2 fz2 lr lf
    clear d0 dz0 d1 dz1 d2 dz2 d3 dz3 d4 dz4 d5 dz5 d6 dz6 d7 dz7 d8 dz8
    clear S9 t9 I3 HI HS
    have KV0 := fun u => entry_calls (T.extract Q (Q + 16)) (by rw [ByteArray.size_extract]; omega) u
    rw [eW_ext T p Q hln] at KV0
    unfold enV at KV0
    have hyes : bst T p cu (i + 1) = bst T p cu (i + 1) := rfl
    have YES := Lib.hid (fun hh => cur_yes T p cu i hh)
    have NOO := Lib.hid (fun hh => cur_no T p cu i hh)
    have BD := cur_bd T p cu i
    have BE := ar_bd T Q
    have OKI := Lib.hid (show i < K → okE T p c i from HFK.out.yes i)
    have NOI := Lib.hid (show i = K → ¬ okE T p c i from fun e => by rw [e]; exact HFK.out.no (by omega))
    unfold okE at OKI NOI
    simp only [er, ew, eh, ea, eb, es, ep, hQ] at YES NOO
    rw [ew, eh] at BD
    rw [hQ] at OKI NOI
    unfold arE at YES NOO BE
    obtain ⟨w1, h9⟩ : ∃ v, eW T Q = v := ⟨_, rfl⟩
    rw [h9] at KV0 YES NOO BE
    clear h9
    obtain ⟨h1, h9⟩ : ∃ v, eH T Q = v := ⟨_, rfl⟩
    rw [h9] at KV0 YES NOO BE
    clear h9
    obtain ⟨a1, h9⟩ : ∃ v, eA T Q = v := ⟨_, rfl⟩
    rw [h9] at KV0 YES
    clear h9
    obtain ⟨b1, h9⟩ : ∃ v, eB T Q = v := ⟨_, rfl⟩
    rw [h9] at KV0 YES NOO
    clear h9
    obtain ⟨s1, h9⟩ : ∃ v, eS T Q = v := ⟨_, rfl⟩
    rw [h9] at KV0 YES OKI NOI
    have hsb : s1 < 4294967296 := by rw [← h9]; exact w4_lt _ _
    clear h9
    obtain ⟨p1, h9⟩ : ∃ v, eP T Q = v := ⟨_, rfl⟩
    rw [h9] at KV0 YES OKI NOI
    have hpb : p1 < 4294967296 := by rw [← h9]; exact w4_lt _ _
    clear h9
    have KV := Lib.hid KV0
    obtain ⟨y, hy⟩ : ∃ y, T.extract Q (Q + 16) = y := ⟨_, rfl⟩
    rw [hy] at KV ⊢
    clear KV0 hy hyes
    go_wp2_with fail
    refine (KV.out _).mono ?_
    rintro e w4 ⟨rfl, g4⟩
    have HI4 := Lib.hid (HI3.out.gb hblt hllt g4)
    have HS4 := Lib.hid (HS3.out.grown g4)
    clear g4 HI3 HS3 KV
    go_upto_region 17 with fail
    have I5 : De W b l D w4.heap.size (dB cu c r wx hx ax bx sx px) #[.int .i64 (w1 : Nat), .int .i64 (h1 : Nat), .int .i64 (a1 : Nat), .int .i64 (b1 : Nat), .int .i64 (s1 : Nat), .int .i64 (p1 : Nat)] _ := HI4.out.de
    have S5 := HS4.out.grown (World.grownBy_alloc w4 (.cells #[.int .i64 (w1 : Nat), .int .i64 (h1 : Nat), .int .i64 (a1 : Nat), .int .i64 (b1 : Nat), .int .i64 (s1 : Nat), .int .i64 (p1 : Nat)] 33) none)
    obtain ⟨E, hE⟩ : ∃ E, w4.heap.size = E := ⟨_, rfl⟩
    rw [hE] at I5 ⊢
    generalize w4.alloc _ = w5 at I5 S5 ⊢
    clear hE HI4 HS4
    have hDE := I5.lt
    have HI5 := Lib.hid I5
    have HS5 := Lib.hid S5
    have d0 := blk_cell I5.di.d 0
    have dz0 := blk_free I5.di.d 0
    have d1 := blk_cell I5.di.d 1
    have dz1 := blk_free I5.di.d 1
    have d2 := blk_cell I5.di.d 2
    have dz2 := blk_free I5.di.d 2
    have d3 := blk_cell I5.di.d 3
    have dz3 := blk_free I5.di.d 3
    have d4 := blk_cell I5.di.d 4
    have dz4 := blk_free I5.di.d 4
    have d5 := blk_cell I5.di.d 5
    have dz5 := blk_free I5.di.d 5
    have d6 := blk_cell I5.di.d 6
    have dz6 := blk_free I5.di.d 6
    have d7 := blk_cell I5.di.d 7
    have dz7 := blk_free I5.di.d 7
    have d8 := blk_cell I5.di.d 8
    have dz8 := blk_free I5.di.d 8
    simp only [dB, List.getElem?_toArray, List.getElem?_cons_succ, List.getElem?_cons_zero] at d0 d1 d2 d3 d4 d5 d6 d7 d8
    have dl := blk_lt I5.di.d
    have e0 := blk_cell I5.e 0
    have ez0 := blk_free I5.e 0
    have e1 := blk_cell I5.e 1
    have ez1 := blk_free I5.e 1
    have e2 := blk_cell I5.e 2
    have ez2 := blk_free I5.e 2
    have e3 := blk_cell I5.e 3
    have ez3 := blk_free I5.e 3
    have e4 := blk_cell I5.e 4
    have ez4 := blk_free I5.e 4
    have e5 := blk_cell I5.e 5
    have ez5 := blk_free I5.e 5
    simp only [List.getElem?_toArray, List.getElem?_cons_succ, List.getElem?_cons_zero] at e0 e1 e2 e3 e4 e5
    have el := blk_lt I5.e
    have KT := Lib.hid (show ∀ m, Calls Try.prog 26 #[.pointer (some ⟨b, 0, none⟩)] (w5.drewN m) fun e w' => e = .returned (.int .i64 (T.size : Nat)) ∧ w5.drewN m = w' from fun m => to_calls b l T _ f T.size _ (HS5.out.grown (gb_drewN _ _ none)).so)
    clear I5 S5
    have wp1 : IntKind.i64.wrap ((p : Int) + (p1 : Nat)) = (p : Int) + (p1 : Nat) := IntWalk.i64_in _ (by omega)
    have wp2 : IntKind.i64.wrap ((p : Int) + (p1 : Nat) + (s1 : Nat)) = (p : Int) + (p1 : Nat) + (s1 : Nat) := IntWalk.i64_in _ (by omega)
    have wp3 : IntKind.i64.wrap ((p1 : Int) + (p : Nat)) = (p1 : Int) + (p : Nat) := IntWalk.i64_in _ (by omega)
    have wq : IntKind.i64.wrap ((Q : Int) + 12) = (Q : Int) + 12 := IntWalk.i64_in _ (by omega)
    by_cases hokk : en ≤ p1 ∧ p + p1 + s1 ≤ T.size
    · have hi1 : i < K := by
        by_cases h : i < K
        · exact h
        · exact absurd ⟨by omega, by rw [hen]; exact hokk.1, hokk.2⟩ (NOI.out (by omega))
      have gd1 : decide ((p1 : Int) < (en : Int)) = false := decide_eq_false (by omega)
      have gd2 : decide ((T.size : Int) < (p : Int) + (p1 : Nat) + (s1 : Nat)) = false := decide_eq_false (by omega)
      have gd3 : decide (p1 < en) = false := decide_eq_false (by omega)
      have gd4 : decide (T.size < p + p1 + s1) = false := decide_eq_false (by omega)
      have gd5 : ¬ p1 < en := by omega
      have gd6 : ¬ T.size < p + p1 + s1 := by omega
      have HI1 := Lib.hid hi1
      have HOK := Lib.hid hokk
      clear hokk hi1 OKI NOI
      go_quiet ((first
        | (go_at_call 25; exact Calls.quiet_of_same ((KE.out _).mono (fun _ _ h => ⟨h.1, h.2.symm⟩)))
        | (go_at_call 26; exact quiet_w (KT.out _))))
      obtain ⟨pp, hpp⟩ : ∃ pp : Nat, p + p1 = pp := ⟨_, rfl⟩
      have wp3 : IntKind.i64.wrap ((p1 : Int) + (p : Nat)) = ((pp : Nat) : Int) := by rw [IntWalk.i64_in _ (by omega)]; omega
      have wp4 : (p1 : Int) + (p : Nat) = ((pp : Nat) : Int) := by omega
      have HI6 := Lib.hid (HI5.out.gb hblt hllt (gb_drewN w5 nq none))
      have HS6 := Lib.hid (HS5.out.grown (gb_drewN w5 nq none))
      generalize w5.drewN nq = w6 at HI6 HS6 ⊢
      clear d0 dz0 d1 dz1 d2 dz2 d3 dz3 d4 dz4 d5 dz5 d6 dz6 d7 dz7 d8 dz8
      clear e0 ez0 e1 ez1 e2 ez2 e3 ez3 e4 ez4 e5 ez5 el dl
      clear HI5 HS5 KT gd1 gd2 gd3 gd4 gd5 gd6 wp1 wp2
      have e0 := blk_cell HI6.out.e 0
      have ez0 := blk_free HI6.out.e 0
      have e1 := blk_cell HI6.out.e 1
      have ez1 := blk_free HI6.out.e 1
      have e2 := blk_cell HI6.out.e 2
      have ez2 := blk_free HI6.out.e 2
      have e3 := blk_cell HI6.out.e 3
      have ez3 := blk_free HI6.out.e 3
      have e4 := blk_cell HI6.out.e 4
      have ez4 := blk_free HI6.out.e 4
      have e5 := blk_cell HI6.out.e 5
      have ez5 := blk_free HI6.out.e 5
      simp only [List.getElem?_toArray, List.getElem?_cons_succ, List.getElem?_cons_zero] at e0 e1 e2 e3 e4 e5
      have el := blk_lt HI6.out.e
      rw [hpp] at YES
      have HPP := Lib.hid hpp
      clear hpp
      go_upto_region 20 with fail
      have HDE := Lib.hid hDE
      refine abs_w (R := fun u => De W b l D E (dB cu c r wx hx ax bx sx px) #[.int .i64 (w1 : Nat), .int .i64 (h1 : Nat), .int .i64 (a1 : Nat), .int .i64 (b1 : Nat), .int .i64 (s1 : Nat), .int .i64 (pp : Nat)] u ∧ Sl b l T (Q + 16) f T.size (stp x (2 + i)) u) ⟨HI6.out.set 5 _, HS6.out.st (by have := HW.out; have := HDE.out; omega) (by have := HW.out; have := HDE.out; omega)⟩ (fun w7 I7 => ?_)
      have HI7 := Lib.hid I7.1
      have HS7 := Lib.hid I7.2
      clear I7 HI6 HS6
      clear e0 ez0 e1 ez1 e2 ez2 e3 ez3 e4 ez4 e5 ez5 el
      have d0 := blk_cell HI7.out.di.d 0
      have dz0 := blk_free HI7.out.di.d 0
      have d1 := blk_cell HI7.out.di.d 1
      have dz1 := blk_free HI7.out.di.d 1
      have d2 := blk_cell HI7.out.di.d 2
      have dz2 := blk_free HI7.out.di.d 2
      have d3 := blk_cell HI7.out.di.d 3
      have dz3 := blk_free HI7.out.di.d 3
      have d4 := blk_cell HI7.out.di.d 4
      have dz4 := blk_free HI7.out.di.d 4
      have d5 := blk_cell HI7.out.di.d 5
      have dz5 := blk_free HI7.out.di.d 5
      have d6 := blk_cell HI7.out.di.d 6
      have dz6 := blk_free HI7.out.di.d 6
      have d7 := blk_cell HI7.out.di.d 7
      have dz7 := blk_free HI7.out.di.d 7
      have d8 := blk_cell HI7.out.di.d 8
      have dz8 := blk_free HI7.out.di.d 8
      simp only [dB, List.getElem?_toArray, List.getElem?_cons_succ, List.getElem?_cons_zero] at d0 d1 d2 d3 d4 d5 d6 d7 d8
      have dl := blk_lt HI7.out.di.d
      have e0 := blk_cell HI7.out.e 0
      have ez0 := blk_free HI7.out.e 0
      have e1 := blk_cell HI7.out.e 1
      have ez1 := blk_free HI7.out.e 1
      have e2 := blk_cell HI7.out.e 2
      have ez2 := blk_free HI7.out.e 2
      have e3 := blk_cell HI7.out.e 3
      have ez3 := blk_free HI7.out.e 3
      have e4 := blk_cell HI7.out.e 4
      have ez4 := blk_free HI7.out.e 4
      have e5 := blk_cell HI7.out.e 5
      have ez5 := blk_free HI7.out.e 5
      simp only [List.getElem?_toArray, List.getElem?_cons_succ, List.getElem?_cons_zero] at e0 e1 e2 e3 e4 e5
      have el := blk_lt HI7.out.e
      have KB := fun u => better_calls (w1 : Nat) (h1 : Nat) (a1 : Nat) (b1 : Nat) (s1 : Nat) (pp : Nat) ((w1 * h1 : Nat)) (wx : Nat) (hx : Nat) (ax : Nat) (bx : Nat) (sx : Nat) (px : Nat) ((wx * hx : Nat)) cu (by rw [Int.natCast_mul]) (IntWalk.i64_in _ (by omega)) (by rw [Int.natCast_mul]) (IntWalk.i64_in _ (by omega)) u
      cases hbt : btB cu ((w1 * h1 : Nat)) (b1 : Nat) ((wx * hx : Nat)) (bx : Nat) with
      | true =>
        have Y := YES.out hbt
        rw [hbt] at KB
        have KB := Lib.hid KB
        have HY := Lib.hid Y
        clear YES NOO Y hbt
        go_wp2_with fail
        refine (KB.out _).mono ?_
        rintro e w8 ⟨rfl, g8⟩
        have HI8 := Lib.hid (HI7.out.gb hblt hllt g8)
        have HS8 := Lib.hid (HS7.out.grown g8)
        clear d0 dz0 d1 dz1 d2 dz2 d3 dz3 d4 dz4 d5 dz5 d6 dz6 d7 dz7 d8 dz8
        clear e0 ez0 e1 ez1 e2 ez2 e3 ez3 e4 ez4 e5 ez5 el dl
        have d0 := blk_cell HI8.out.di.d 0
        have dz0 := blk_free HI8.out.di.d 0
        have d1 := blk_cell HI8.out.di.d 1
        have dz1 := blk_free HI8.out.di.d 1
        have d2 := blk_cell HI8.out.di.d 2
        have dz2 := blk_free HI8.out.di.d 2
        have d3 := blk_cell HI8.out.di.d 3
        have dz3 := blk_free HI8.out.di.d 3
        have d4 := blk_cell HI8.out.di.d 4
        have dz4 := blk_free HI8.out.di.d 4
        have d5 := blk_cell HI8.out.di.d 5
        have dz5 := blk_free HI8.out.di.d 5
        have d6 := blk_cell HI8.out.di.d 6
        have dz6 := blk_free HI8.out.di.d 6
        have d7 := blk_cell HI8.out.di.d 7
        have dz7 := blk_free HI8.out.di.d 7
        have d8 := blk_cell HI8.out.di.d 8
        have dz8 := blk_free HI8.out.di.d 8
        simp only [dB, List.getElem?_toArray, List.getElem?_cons_succ, List.getElem?_cons_zero] at d0 d1 d2 d3 d4 d5 d6 d7 d8
        have dl := blk_lt HI8.out.di.d
        have e0 := blk_cell HI8.out.e 0
        have ez0 := blk_free HI8.out.e 0
        have e1 := blk_cell HI8.out.e 1
        have ez1 := blk_free HI8.out.e 1
        have e2 := blk_cell HI8.out.e 2
        have ez2 := blk_free HI8.out.e 2
        have e3 := blk_cell HI8.out.e 3
        have ez3 := blk_free HI8.out.e 3
        have e4 := blk_cell HI8.out.e 4
        have ez4 := blk_free HI8.out.e 4
        have e5 := blk_cell HI8.out.e 5
        have ez5 := blk_free HI8.out.e 5
        simp only [List.getElem?_toArray, List.getElem?_cons_succ, List.getElem?_cons_zero] at e0 e1 e2 e3 e4 e5
        have el := blk_lt HI8.out.e
        clear g8 HI7 HS7 KB
        have nDE : ¬ D = E := by have := HDE.out; omega
        have nED : ¬ E = D := by have := HDE.out; omega
        go_upto_region 21 with fail
        go_region
        refine abs_w (R := fun u => Di W b l D (dB cu c i w1 h1 a1 b1 s1 pp) u ∧ Sl b l T (Q + 16) f T.size (stp x (2 + i)) u) ⟨HI8.out.best i w1 h1 a1 b1 s1 pp, ?_⟩ (fun w9 I9 => ?_)
        · have := HW.out
          exact HS8.out.best (by omega) (by omega) _ _ _ _ _ _ _
        have HI9 := Lib.hid I9.1
        have HS9 := Lib.hid I9.2
        clear I9 HI8 HS8
        clear d0 dz0 d1 dz1 d2 dz2 d3 dz3 d4 dz4 d5 dz5 d6 dz6 d7 dz7 d8 dz8
        clear e0 ez0 e1 ez1 e2 ez2 e3 ez3 e4 ez4 e5 ez5 el dl
        go_wp2
        go_roundg (c - (i + 1))
        case measure => omega
        case rel =>
          obtain ⟨y0, y1, y2, y3, y4, y5, y6⟩ := HY.out
          refine ⟨i + 1, i, w1, h1, a1, b1, s1, pp, by have := HI1.out; omega, y0, y1, y2, y3, y4, y5, y6, HI9.out, ?_, rfl, by go_num⟩
          have h9 := HS9.out
          rw [show Q + 16 = qE p (i + 1) from by have := HQ.out; unfold qE; omega, show 2 + i = 1 + (i + 1) from by omega] at h9
          exact h9
      | false =>
        have Y := NOO.out hbt
        rw [hbt] at KB
        have KB := Lib.hid KB
        have HY := Lib.hid Y
        clear YES NOO Y hbt
        go_wp2_with fail
        refine (KB.out _).mono ?_
        rintro e w8 ⟨rfl, g8⟩
        have HI8 := Lib.hid (HI7.out.gb hblt hllt g8)
        have HS8 := Lib.hid (HS7.out.grown g8)
        clear d0 dz0 d1 dz1 d2 dz2 d3 dz3 d4 dz4 d5 dz5 d6 dz6 d7 dz7 d8 dz8
        clear e0 ez0 e1 ez1 e2 ez2 e3 ez3 e4 ez4 e5 ez5 el dl
        clear g8 HI7 HS7 KB
        go_wp2
        go_roundg (c - (i + 1))
        case measure => omega
        case rel =>
          obtain ⟨-, y0, y1, y2, y3, y4, y5, y6⟩ := HY.out
          refine ⟨i + 1, r, wx, hx, ax, bx, sx, px, by have := HI1.out; omega, y0, y1, y2, y3, y4, y5, y6, HI8.out.di, ?_, rfl, by go_num⟩
          have h9 := HS8.out
          rw [show Q + 16 = qE p (i + 1) from by have := HQ.out; unfold qE; omega, show 2 + i = 1 + (i + 1) from by omega] at h9
          exact h9
    · have hKi : K = i := by
        by_cases h : i < K
        · have h2 := OKI.out h
          exact absurd ⟨by omega, h2.2.2⟩ hokk
        · omega
      obtain ⟨h9, _⟩ | ⟨_, h9, _⟩ | ⟨-, -, hnn, hq, hdv, hfv⟩ := HEND.out
      · omega
      · exfalso
        rw [hKi, hQ] at h9
        omega
      rw [hKi, hQ] at hq hfv
      rw [hKi] at hnn
      obtain ⟨a, ha⟩ : ∃ a : Nat, Q + 12 = a := ⟨_, rfl⟩
      have wq1 : IntKind.i64.wrap ((Q : Int) + 12) = (a : Int) := by rw [IntWalk.i64_in _ (by omega)]; omega
      have wq2 : (Q : Int) + 12 = (a : Int) := by omega
      have KM := Lib.hid (fun u => bad_calls (a : Nat) u)
      rw [ha] at hfv
      have HQ2 := Lib.hid (And.intro hnn (And.intro hq (And.intro hdv hfv)))
      clear hnn hq hdv hfv ha wq hKi HEND HFK OKI NOI YES NOO
      by_cases hp : p1 < en
      · have gd1 : decide ((p1 : Int) < (en : Int)) = true := decide_eq_true (by omega)
        have gd3 : decide (p1 < en) = true := decide_eq_true hp
        clear hokk
        go_quiet ((first
          | (go_at_call 25; exact Calls.quiet_of_same ((KE.out _).mono (fun _ _ h => ⟨h.1, h.2.symm⟩)))
          | (go_at_call 26; exact quiet_w (KT.out _))))
        have HI6 := Lib.hid (HI5.out.gb hblt hllt (gb_drewN w5 nq none))
        have HS6 := Lib.hid (HS5.out.grown (gb_drewN w5 nq none))
        generalize w5.drewN nq = w6 at HI6 HS6 ⊢
        clear d0 dz0 d1 dz1 d2 dz2 d3 dz3 d4 dz4 d5 dz5 d6 dz6 d7 dz7 d8 dz8
        clear e0 ez0 e1 ez1 e2 ez2 e3 ez3 e4 ez4 e5 ez5 el dl
        clear HI5 HS5 KT gd1 gd3 wp1 wp2 wp3
        go_wp2_with fail
        refine (KM.out _).mono ?_
        rintro e w7 ⟨rfl, g7⟩
        have I7 := (HI6.out.gb hblt hllt g7).di
        have HS7 := Lib.hid (HS6.out.grown g7)
        clear g7 HI6 HS6
        have r0 := blk_cell I7.r 0
        have rz0 := blk_free I7.r 0
        have r1 := blk_cell I7.r 1
        have rz1 := blk_free I7.r 1
        have r2 := blk_cell I7.r 2
        have rz2 := blk_free I7.r 2
        have r3 := blk_cell I7.r 3
        have rz3 := blk_free I7.r 3
        have r4 := blk_cell I7.r 4
        have rz4 := blk_free I7.r 4
        have r5 := blk_cell I7.r 5
        have rz5 := blk_free I7.r 5
        have r6 := blk_cell I7.r 6
        have rz6 := blk_free I7.r 6
        have r7 := blk_cell I7.r 7
        have rz7 := blk_free I7.r 7
        have r8 := blk_cell I7.r 8
        have rz8 := blk_free I7.r 8
        have f0 := blk_cell I7.f 0
        have fz0 := blk_free I7.f 0
        have f1 := blk_cell I7.f 1
        have fz1 := blk_free I7.f 1
        have f2 := blk_cell I7.f 2
        have fz2 := blk_free I7.f 2
        simp only [Z9, List.getElem?_toArray, List.getElem?_cons_succ, List.getElem?_cons_zero] at r0 r1 r2 r3 r4 r5 r6 r7 r8 f0 f1 f2
        have lr := blk_lt I7.r
        have lf := blk_lt I7.f
        have HI7 := Lib.hid I7
        clear I7
        go_wp2
        refine bodyPost_ret (v := .tuple #[.agg #[.bool false, .int .i64 0, .int .i64 0, .int .i64 0, .int .i64 0, .int .i64 0, .int .i64 0, .int .i64 0, .int .i64 0], .agg #[.int .i64 2, .int .i64 4, .int .i64 (a : Nat)]]) (by simp only [results, Try.results10]; go_simp) rfl ?_
        obtain ⟨hnn, hq, hdv, hfv⟩ := HQ2.out
        subst hnn hq hdv hfv
        exact .inl ⟨by have := hst4; exact this, rfl, ((((((((((((HS7.out).st (by omega) (by omega)).st (by omega) (by omega)).st (by omega) (by omega)).st (by omega) (by omega)).st (by omega) (by omega)).st (by omega) (by omega)).st (by omega) (by omega)).st (by omega) (by omega)).st (by omega) (by omega)).st (by omega) (by omega)).st (by omega) (by omega)).st (by omega) (by omega), tn_own1 (tn_own1 (tn_own1 (tn_own1 (tn_own1 (tn_own1 (tn_own1 (tn_own1 (tn_own1 (tn_own1 (tn_own1 (tn_own1 (HI7.out.t) (by omega)) (by omega)) (by omega)) (by omega)) (by omega)) (by omega)) (by omega)) (by omega)) (by omega)) (by omega)) (by omega)) (by omega)⟩
      · have gd1 : decide ((p1 : Int) < (en : Int)) = false := decide_eq_false (by omega)
        have gd2 : decide ((T.size : Int) < (p : Int) + (p1 : Nat) + (s1 : Nat)) = true := decide_eq_true (by omega)
        have gd3 : decide (p1 < en) = false := decide_eq_false (by omega)
        have gd4 : decide (T.size < p + p1 + s1) = true := decide_eq_true (by omega)
        have gd6 : T.size < p + p1 + s1 := by omega
        clear hokk
        go_quiet ((first
          | (go_at_call 25; exact Calls.quiet_of_same ((KE.out _).mono (fun _ _ h => ⟨h.1, h.2.symm⟩)))
          | (go_at_call 26; exact quiet_w (KT.out _))))
        have HI6 := Lib.hid (HI5.out.gb hblt hllt (gb_drewN w5 nq none))
        have HS6 := Lib.hid (HS5.out.grown (gb_drewN w5 nq none))
        generalize w5.drewN nq = w6 at HI6 HS6 ⊢
        clear d0 dz0 d1 dz1 d2 dz2 d3 dz3 d4 dz4 d5 dz5 d6 dz6 d7 dz7 d8 dz8
        clear e0 ez0 e1 ez1 e2 ez2 e3 ez3 e4 ez4 e5 ez5 el dl
        clear HI5 HS5 KT gd1 gd3 wp1 wp2 wp3
        go_wp2_with fail
        refine (KM.out _).mono ?_
        rintro e w7 ⟨rfl, g7⟩
        have I7 := (HI6.out.gb hblt hllt g7).di
        have HS7 := Lib.hid (HS6.out.grown g7)
        clear g7 HI6 HS6
        have r0 := blk_cell I7.r 0
        have rz0 := blk_free I7.r 0
        have r1 := blk_cell I7.r 1
        have rz1 := blk_free I7.r 1
        have r2 := blk_cell I7.r 2
        have rz2 := blk_free I7.r 2
        have r3 := blk_cell I7.r 3
        have rz3 := blk_free I7.r 3
        have r4 := blk_cell I7.r 4
        have rz4 := blk_free I7.r 4
        have r5 := blk_cell I7.r 5
        have rz5 := blk_free I7.r 5
        have r6 := blk_cell I7.r 6
        have rz6 := blk_free I7.r 6
        have r7 := blk_cell I7.r 7
        have rz7 := blk_free I7.r 7
        have r8 := blk_cell I7.r 8
        have rz8 := blk_free I7.r 8
        have f0 := blk_cell I7.f 0
        have fz0 := blk_free I7.f 0
        have f1 := blk_cell I7.f 1
        have fz1 := blk_free I7.f 1
        have f2 := blk_cell I7.f 2
        have fz2 := blk_free I7.f 2
        simp only [Z9, List.getElem?_toArray, List.getElem?_cons_succ, List.getElem?_cons_zero] at r0 r1 r2 r3 r4 r5 r6 r7 r8 f0 f1 f2
        have lr := blk_lt I7.r
        have lf := blk_lt I7.f
        have HI7 := Lib.hid I7
        clear I7
        go_wp2
        refine bodyPost_ret (v := .tuple #[.agg #[.bool false, .int .i64 0, .int .i64 0, .int .i64 0, .int .i64 0, .int .i64 0, .int .i64 0, .int .i64 0, .int .i64 0], .agg #[.int .i64 2, .int .i64 4, .int .i64 (a : Nat)]]) (by simp only [results, Try.results10]; go_simp) rfl ?_
        obtain ⟨hnn, hq, hdv, hfv⟩ := HQ2.out
        subst hnn hq hdv hfv
        exact .inl ⟨by have := hst4; exact this, rfl, ((((((((((((HS7.out).st (by omega) (by omega)).st (by omega) (by omega)).st (by omega) (by omega)).st (by omega) (by omega)).st (by omega) (by omega)).st (by omega) (by omega)).st (by omega) (by omega)).st (by omega) (by omega)).st (by omega) (by omega)).st (by omega) (by omega)).st (by omega) (by omega)).st (by omega) (by omega), tn_own1 (tn_own1 (tn_own1 (tn_own1 (tn_own1 (tn_own1 (tn_own1 (tn_own1 (tn_own1 (tn_own1 (tn_own1 (tn_own1 (HI7.out.t) (by omega)) (by omega)) (by omega)) (by omega)) (by omega)) (by omega)) (by omega)) (by omega)) (by omega)) (by omega)) (by omega)) (by omega)⟩

end Go.Proofs.Ytajbpcaghmcplaa.Id
