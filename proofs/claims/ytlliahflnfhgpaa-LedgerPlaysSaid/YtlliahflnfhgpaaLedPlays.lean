/- The law LedgerPlays, walked. -/
import Derived.Test.YtlliahflnfhgpaaLed7
import Derived.Test.YtlliahflnfhgpaaLedFirst
import Derived.Deep.LoopGhost
import Derived.Deep.RegionHeld3
import Derived.Deep.QuietTactic
import Derived.BigQuiet
namespace Go.Proofs.Ytlliahflnfhgpaa.Le
open Go.ChangeShapes Go.WideShapes Go.ChangeAt Go.RowKit
set_option linter.unusedVariables false

def St.arr (x : St) : Array Value := #[.int .i64 x.w, .int .i64 x.h, .int .i64 x.b, .int .i64 x.s, .int .i64 x.by_, .int .i64 x.pk, .int .i64 x.st, .int .i64 x.r, .int .i64 x.a]

/-- The budget, told, with the world written out. -/
theorem budget_at (b : Nat) (x : St) (w : World) (h : Led b x.ls w) :
    Calls Try.prog 8 #[.pointer (some ⟨b, 0, none⟩)] w
      fun e w' => e = .returned (.agg #[.int .i64 x.w, .int .i64 x.h, .int .i64 x.b, .int .i64 x.s]) ∧ w.alloc (.cells #[.int .i64 x.w, .int .i64 x.h, .int .i64 x.b, .int .i64 x.s] 23) = w' := by
  have hb := h.lt
  have c0 := (h.c 0).trans (show x.ls.cells[0]? = some (.int .i64 x.w) by simp [LS.cells, St.ls])
  have c1 := (h.c 1).trans (show x.ls.cells[1]? = some (.int .i64 x.h) by simp [LS.cells, St.ls])
  have c2 := (h.c 2).trans (show x.ls.cells[2]? = some (.int .i64 x.b) by simp [LS.cells, St.ls])
  have c3 := (h.c 3).trans (show x.ls.cells[3]? = some (.int .i64 x.s) by simp [LS.cells, St.ls])
  clear h
  go_enter Try.func8, Try.ntmps8
  go_wp2
  exact bodyPost_ret (v := .agg #[.int .i64 x.w, .int .i64 x.h, .int .i64 x.b, .int .i64 x.s]) (by simp [results, Try.results8, go_sem]) rfl ⟨rfl, rfl⟩

/-- What holds at every round's head: the ledger and the document's state are the same. -/
structure PI (W : World) (l X : Nat) (x : St) (wr : World) : Prop where
  ok : x.Ok
  zero : x.r = 0 → x.a = 0
  led : Led l x.ls wr
  blk : wr.heap[X]? = some (.cells x.arr 28 (0, 0))
  grown : W.grownBy wr none

theorem rnew_at (p q r s : Int) (w : World) :
    Calls Try.prog 7 #[.int .i64 p, .int .i64 q, .int .i64 r, .int .i64 s] w fun e w' => e = .returned (.agg #[.int .i64 (pos p), .int .i64 (pos q), .int .i64 (pos r), .int .i64 (pos s), .int .i64 0, .int .i64 0, .int .i64 0, .int .i64 0, .int .i64 0]) ∧ w.grownBy w' none :=
  rnew_calls p q r s w

/-- Behind the ledger's call of a round: the ledger is at y, the document's state at x still; the round's call lies in block O. -/
structure PJ (W : World) (l X O : Nat) (c0 c1 c2 : Int) (x y : St) (wr : World) : Prop where
  th : Then x y
  led : Led l y.ls wr
  blk : wr.heap[X]? = some (.cells x.arr 28 (0, 0))
  opb : wr.heap[O]? = some (.cells #[.int .i64 c0, .int .i64 c1, .int .i64 c2] 32 (0, 0))
  grown : W.grownBy wr none

theorem PI.go {W : World} {l X : Nat} {x : St} {w w' : World} (J : PI W l X x w) (g : w.grownBy w' none) : PI W l X x w' :=
  ⟨J.ok, J.zero, J.led.grown g (by simp), blk_keep J.blk g (by simp), gb_trans J.grown g⟩
theorem PI.drewN {W : World} {l X : Nat} {x : St} {w : World} (J : PI W l X x w) (n : Nat) : PI W l X x (w.drewN n) :=
  J.go ⟨rfl, rfl, rfl, Nat.le_refl _, fun _ _ _ => rfl⟩
theorem PI.move {W : World} {l X : Nat} {x y : St} {wr w' : World} {c0 c1 c2 : Int} (I : PI W l X x wr) (hl : W.heap.size ≤ l) (hlX : l ≠ X) (th : Then x y) (L : Led l y.ls w')
    (g : (wr.alloc (.cells #[.int .i64 c0, .int .i64 c1, .int .i64 c2] 32)).grownBy w' (some l)) : PJ W l X wr.heap.size c0 c1 c2 x y w' := by
  have hlt := I.led.lt
  refine ⟨th, L, ?_, ?_, ?_⟩
  · exact blk_keep (blk_keep I.blk (World.grownBy_alloc _ _ none) (by simp)) g (by simp; omega)
  · exact blk_keep (blk_new _ _ _) g (by simp; omega)
  · exact gb_own (gb_trans I.grown (World.grownBy_alloc _ _ _)) hl g
theorem PJ.go {W : World} {l X O : Nat} {c0 c1 c2 : Int} {x y : St} {w w' : World} (J : PJ W l X O c0 c1 c2 x y w) (g : w.grownBy w' none) : PJ W l X O c0 c1 c2 x y w' :=
  ⟨J.th, J.led.grown g (by simp), blk_keep J.blk g (by simp), blk_keep J.opb g (by simp), gb_trans J.grown g⟩

/-- The document's answer as a call answers it. -/
def Told (f : Nat) (args : Array Value) (y : St) (B : Bool) : Prop :=
  ∀ w, Calls Try.prog f args w fun e w' => e = .returned (.tuple #[.agg #[.int .i64 y.w, .int .i64 y.h, .int .i64 y.b, .int .i64 y.s, .int .i64 y.by_, .int .i64 y.pk, .int .i64 y.st, .int .i64 y.r, .int .i64 y.a], .bool B]) ∧ w.grownBy w' none

/-- What a round's call leaves: the answer, the state, and that the document's answer is the same. -/
def Play (W : World) (l X O : Nat) (c0 c1 c2 : Int) (x : St) (f : Nat) (args : Array Value) (e : Ending) (w' : World) : Prop :=
  ∃ (y : St) (B : Bool), e = .returned (.bool B) ∧ PJ W l X O c0 c1 c2 x y w' ∧ Told f args y B

section
variable {W : World} {l X : Nat} {x : St} {wr : World}
theorem p_sides (I : PI W l X x wr) (hl : W.heap.size ≤ l) (hlX : l ≠ X) (k n m : Int) : Calls Try.prog 9 #[.pointer (some ⟨l, 0, none⟩), .int .i64 n, .int .i64 m] (wr.alloc (.cells #[.int .i64 k, .int .i64 n, .int .i64 m] 32))
    (Play W l X wr.heap.size k n m x 10 #[x.agg, .int .i64 n, .int .i64 m]) :=
  (sides_calls l x n m _ (I.led.alloc _)).mono fun _ _ ⟨he, L, g⟩ => ⟨_, _, he, I.move hl hlX (then_sides I.ok I.zero n m) L g, fun w => rsides_calls x n m w⟩
theorem p_take (I : PI W l X x wr) (hl : W.heap.size ≤ l) (hlX : l ≠ X) (k n m : Int) : Calls Try.prog 11 #[.pointer (some ⟨l, 0, none⟩), .int .i64 n] (wr.alloc (.cells #[.int .i64 k, .int .i64 n, .int .i64 m] 32))
    (Play W l X wr.heap.size k n m x 12 #[x.agg, .int .i64 n]) :=
  (take_calls l x n _ (I.led.alloc _) I.ok).mono fun _ _ ⟨he, L, g⟩ => ⟨_, _, he, I.move hl hlX (then_take I.ok I.zero n) L g, fun w => rtake_calls x n w I.ok⟩
theorem p_give (I : PI W l X x wr) (hl : W.heap.size ≤ l) (hlX : l ≠ X) (k n m : Int) : Calls Try.prog 13 #[.pointer (some ⟨l, 0, none⟩), .int .i64 n] (wr.alloc (.cells #[.int .i64 k, .int .i64 n, .int .i64 m] 32))
    (Play W l X wr.heap.size k n m x 14 #[x.agg, .int .i64 n]) :=
  (give_calls l x n _ (I.led.alloc _) I.ok).mono fun _ _ ⟨he, L, g⟩ => ⟨_, _, he, I.move hl hlX (then_give I.ok I.zero n) L g, fun w => rgive_calls x n w I.ok⟩
theorem p_work (I : PI W l X x wr) (hl : W.heap.size ≤ l) (hlX : l ≠ X) (k n m : Int) : Calls Try.prog 15 #[.pointer (some ⟨l, 0, none⟩), .int .i64 n] (wr.alloc (.cells #[.int .i64 k, .int .i64 n, .int .i64 m] 32))
    (Play W l X wr.heap.size k n m x 16 #[x.agg, .int .i64 n]) :=
  (work_calls l x n _ (I.led.alloc _) I.ok).mono fun _ _ ⟨he, L, g⟩ => ⟨_, _, he, I.move hl hlX (then_work I.ok I.zero n) L g, fun w => rwork_calls x n w I.ok⟩
end

/-- The nine cells of the document's state, and that they may be written. -/
def Nine (X : Nat) (x : St) (w : World) : Prop :=
  w.cell? ⟨X, 0, none⟩ = some (.int .i64 x.w) ∧ w.cell? ⟨X, 1, none⟩ = some (.int .i64 x.h) ∧ w.cell? ⟨X, 2, none⟩ = some (.int .i64 x.b) ∧ w.cell? ⟨X, 3, none⟩ = some (.int .i64 x.s) ∧ w.cell? ⟨X, 4, none⟩ = some (.int .i64 x.by_) ∧
  w.cell? ⟨X, 5, none⟩ = some (.int .i64 x.pk) ∧ w.cell? ⟨X, 6, none⟩ = some (.int .i64 x.st) ∧ w.cell? ⟨X, 7, none⟩ = some (.int .i64 x.r) ∧ w.cell? ⟨X, 8, none⟩ = some (.int .i64 x.a)
theorem nine_of {X : Nat} {x : St} {w : World} (h : w.heap[X]? = some (.cells x.arr 28 (0, 0))) : Nine X x w :=
  ⟨blk_cell h 0, blk_cell h 1, blk_cell h 2, blk_cell h 3, blk_cell h 4, blk_cell h 5, blk_cell h 6, blk_cell h 7, blk_cell h 8⟩

theorem PJ.put {W : World} {l X O : Nat} {c0 c1 c2 : Int} {x y : St} {w : World} (J : PJ W l X O c0 c1 c2 x y w) (hlX : l ≠ X) (hX : W.heap.size ≤ X) :
    PI W l X y (((((((((w.setCell ⟨X, 0, none⟩ (.int .i64 y.w)).setCell ⟨X, 1, none⟩ (.int .i64 y.h)).setCell ⟨X, 2, none⟩ (.int .i64 y.b)).setCell ⟨X, 3, none⟩ (.int .i64 y.s)).setCell ⟨X, 4, none⟩ (.int .i64 y.by_)).setCell ⟨X, 5, none⟩ (.int .i64 y.pk)).setCell ⟨X, 6, none⟩ (.int .i64 y.st)).setCell ⟨X, 7, none⟩ (.int .i64 y.r)).setCell ⟨X, 8, none⟩ (.int .i64 y.a)) := by
  refine ⟨J.th.ok, J.th.zero, ?_, ?_, ?_⟩
  · exact (((((((((J.led.other hlX _).other hlX _).other hlX _).other hlX _).other hlX _).other hlX _).other hlX _).other hlX _).other hlX _)
  · have h := J.blk
    unfold St.arr at h ⊢
    have h := blk_set h 0 (.int .i64 y.w)
    simp only [List.setIfInBounds_toArray, List.set_cons_zero] at h
    have h := blk_set h 1 (.int .i64 y.h)
    simp only [List.setIfInBounds_toArray, List.set_cons_zero, List.set_cons_succ] at h
    have h := blk_set h 2 (.int .i64 y.b)
    simp only [List.setIfInBounds_toArray, List.set_cons_zero, List.set_cons_succ] at h
    have h := blk_set h 3 (.int .i64 y.s)
    simp only [List.setIfInBounds_toArray, List.set_cons_zero, List.set_cons_succ] at h
    have h := blk_set h 4 (.int .i64 y.by_)
    simp only [List.setIfInBounds_toArray, List.set_cons_zero, List.set_cons_succ] at h
    have h := blk_set h 5 (.int .i64 y.pk)
    simp only [List.setIfInBounds_toArray, List.set_cons_zero, List.set_cons_succ] at h
    have h := blk_set h 6 (.int .i64 y.st)
    simp only [List.setIfInBounds_toArray, List.set_cons_zero, List.set_cons_succ] at h
    have h := blk_set h 7 (.int .i64 y.r)
    simp only [List.setIfInBounds_toArray, List.set_cons_zero, List.set_cons_succ] at h
    have h := blk_set h 8 (.int .i64 y.a)
    simp only [List.setIfInBounds_toArray, List.set_cons_zero, List.set_cons_succ] at h
    exact h
  · exact gb_own (gb_own (gb_own (gb_own (gb_own (gb_own (gb_own (gb_own (gb_own J.grown hX (gb_set _ _ _ _)) hX (gb_set _ _ _ _)) hX (gb_set _ _ _ _)) hX (gb_set _ _ _ _)) hX (gb_set _ _ _ _)) hX (gb_set _ _ _ _)) hX (gb_set _ _ _ _)) hX (gb_set _ _ _ _)) hX (gb_set _ _ _ _)

theorem p_first {W : World} {l X : Nat} {y : St} {w : World} (I : PI W l X y w) : Calls Try.prog 17 #[.pointer (some ⟨l, 0, none⟩)] w
    fun e w' => e = .returned (.tuple #[.agg #[.int .i64 y.r, .int .i64 y.a], .bool (y.r != 0)]) ∧ PI W l X y w' :=
  (first_calls l y w I.led I.zero).mono fun _ _ ⟨he, g⟩ => ⟨he, I.go g⟩

theorem quiet_left {P : Program} {f : FuncId} {args : Array Value} {w : World} {n : Nat} {v : Value}
    (h : Calls P f args (w.drewN n) fun e w' => e = .returned v ∧ w.drewN n = w') : Calls P f args (w.drewN n) fun e w'' => e = .returned v ∧ ∃ m, w'' = w.drewN m :=
  h.mono fun _ _ ⟨he, hm⟩ => ⟨he, n, hm.symm⟩
theorem quiet_add_left {P : Program} {f : FuncId} {args : Array Value} {w : World} {a n : Nat} {v : Value}
    (h : Calls P f args (w.drewN (a + n)) fun e w' => e = .returned v ∧ w.drewN (a + n) = w') :
    Calls P f args (w.drewN (a + n)) fun e w'' => e = .returned v ∧ ∃ m, w'' = w.drewN (a + m) :=
  h.mono fun _ _ ⟨he, hm⟩ => ⟨he, n, hm.symm⟩
theorem q_bytes {W : World} {l X : Nat} {y : St} {w : World} (I : PI W l X y w) (n : Nat) : Calls Try.prog 18 #[.pointer (some ⟨l, 0, none⟩)] (w.drewN n) fun e w' => e = .returned (.int .i64 y.by_) ∧ w.drewN n = w' :=
  bytes_calls l y.ls (w.drewN n) I.led
theorem q_peak {W : World} {l X : Nat} {y : St} {w : World} (I : PI W l X y w) (n : Nat) : Calls Try.prog 19 #[.pointer (some ⟨l, 0, none⟩)] (w.drewN n) fun e w' => e = .returned (.int .i64 y.pk) ∧ w.drewN n = w' :=
  peak_calls l y.ls (w.drewN n) I.led
theorem q_steps {W : World} {l X : Nat} {y : St} {w : World} (I : PI W l X y w) (n : Nat) : Calls Try.prog 20 #[.pointer (some ⟨l, 0, none⟩)] (w.drewN n) fun e w' => e = .returned (.int .i64 y.st) ∧ w.drewN n = w' :=
  steps_calls l y.ls (w.drewN n) I.led
theorem br_is (y : St) : (y.ls.br != 0) = (y.r != 0) := by
  by_cases h : y.r = 0 <;> simp [St.ls, h]

theorem q_broken {W : World} {l X : Nat} {y : St} {w : World} (I : PI W l X y w) (n : Nat) : Calls Try.prog 21 #[.pointer (some ⟨l, 0, none⟩)] (w.drewN n) fun e w' => e = .returned (.bool (y.r != 0)) ∧ w.drewN n = w' := by
  have h := broken_calls l y.ls (w.drewN n) I.led
  rwa [br_is] at h

set_option maxRecDepth 100000 in
set_option maxHeartbeats 4000000 in
theorem plays_walk (p q r s : Int) (a : Option Addr) (b off len cap : Nat) (K N M : Nat → Int) (W : World) (ha : 0 < len → a = some ⟨b, off, none⟩)
    (hp : p ≤ 9223372036854775807) (hq : q ≤ 9223372036854775807) (hr : r ≤ 9223372036854775807) (hs : s ≤ 9223372036854775807) (hbig : len ≤ 9223372036854775807)
    (hc : ∀ i, i < len → W.cell? ⟨b, off + i * 3, none⟩ = some (.int .i64 (K i)) ∧ W.cell? ⟨b, off + i * 3 + 1, none⟩ = some (.int .i64 (N i)) ∧ W.cell? ⟨b, off + i * 3 + 2, none⟩ = some (.int .i64 (M i))) :
    Calls Try.prog 3 #[.agg #[.int .i64 p, .int .i64 q, .int .i64 r, .int .i64 s], .slice a len cap] W
      fun e w' => e = .returned (.bool true) ∧ W.grownBy w' none := by
  have ok0 := Lib.hid (St.new_ok hp hq hr hs)
  have HC := Lib.hid hc
  have HA := Lib.hid ha
  clear hc hp hq hr hs ha
  go_enter Try.func3, Try.ntmps3
  go_wp2_with fail
  refine (new_calls p q r s _).mono ?_
  rintro e w0 ⟨l, rfl, L0, g0, hl⟩
  have H0 := Lib.hid L0
  have B0 := blk_keep (blk_new W #[.int .i64 p, .int .i64 q, .int .i64 r, .int .i64 s] 23) g0 (by simp)
  have c0 := blk_cell B0 0
  have c1 := blk_cell B0 1
  have c2 := blk_cell B0 2
  have c3 := blk_cell B0 3
  simp only [List.getElem?_toArray, List.getElem?_cons_succ, List.getElem?_cons_zero] at c0 c1 c2 c3
  have G0 := Lib.hid (gb_trans (World.grownBy_alloc _ _ _) g0)
  have hl' : W.heap.size < l := by
    have h1 : (W.alloc (.cells #[.int .i64 p, .int .i64 q, .int .i64 r, .int .i64 s] 23)).heap.size = W.heap.size + 1 := by show (W.heap.push _).size = _; simp
    omega
  have hlw := L0.lt
  have hWw : W.heap.size ≤ w0.heap.size := by have := G0.out.size; omega
  clear L0 g0 hl B0
  go_wp2_with fail
  refine (rnew_at p q r s _).mono ?_
  rintro e w1 ⟨rfl, g1⟩
  have G1 := Lib.hid (gb_trans G0.out g1)
  have H1 := Lib.hid (H0.out.grown g1 (by simp))
  have hw1 := g1.size
  clear g1 c0 c1 c2 c3 H0 G0
  go_wp2_with fail
  obtain ⟨X, hX⟩ : ∃ X, w1.heap.size = X := ⟨_, rfl⟩
  obtain ⟨w2, hw2⟩ : ∃ w2, w1.alloc (.cells #[.int .i64 (pos p), .int .i64 (pos q), .int .i64 (pos r), .int .i64 (pos s), .int .i64 0, .int .i64 0, .int .i64 0, .int .i64 0, .int .i64 0] 28) = w2 := ⟨_, rfl⟩
  have I0 := Lib.hid (show PI W l X (St.new p q r s) w2 from
    ⟨ok0.out, fun _ => rfl, hw2 ▸ H1.out.alloc _, by rw [← hw2, ← hX]; exact blk_new _ _ _, hw2 ▸ gb_trans G1.out (World.grownBy_alloc _ _ _)⟩)
  have hXW : W.heap.size ≤ X := by omega
  have hlX : l ≠ X := by omega
  have hX2 := blk_lt I0.out.blk
  simp only [hX, hw2]
  clear hlw hWw hw1 hX hw2 H1 G1 ok0
  have d0 := blk_cell I0.out.blk 0
  have d1 := blk_cell I0.out.blk 1
  have d2 := blk_cell I0.out.blk 2
  have d3 := blk_cell I0.out.blk 3
  simp only [St.arr, St.new, List.getElem?_toArray, List.getElem?_cons_succ, List.getElem?_cons_zero] at d0 d1 d2 d3
  obtain ⟨P, hP⟩ : ∃ P, pos p = P := ⟨_, rfl⟩
  obtain ⟨Q, hQ⟩ : ∃ Q, pos q = Q := ⟨_, rfl⟩
  obtain ⟨R, hR⟩ : ∃ R, pos r = R := ⟨_, rfl⟩
  obtain ⟨S, hS⟩ : ∃ S, pos s = S := ⟨_, rfl⟩
  have KA := budget_at l (St.new p q r s) w2.drew I0.out.led.drew
  simp only [St.new] at KA
  simp only [hP, hQ, hR, hS] at *
  have KB := Lib.hid KA
  clear KA hP hQ hR hS
  go_region_held3 (fun w' => w'.cell? ⟨X, 0, none⟩ = some (.int .i64 P) ∧ w'.cell? ⟨X, 1, none⟩ = some (.int .i64 Q) ∧ w'.cell? ⟨X, 2, none⟩ = some (.int .i64 R) ∧ w'.cell? ⟨X, 3, none⟩ = some (.int .i64 S)) (go_keep)
    (first | (go_at_call 8; refine KB.out.mono ?_; rintro e w' ⟨rfl, rfl⟩))
  clear KB
  have I1 := Lib.hid (show PI W l X (St.new p q r s) (w2.alloc (.cells #[.int .i64 P, .int .i64 Q, .int .i64 R, .int .i64 S] 23)).drew from
    I0.out.go (gb_trans (World.grownBy_alloc _ _ _) (gb_drew _ _)))
  clear I0 d0 d1 d2 d3
  go_wp2_with fail
  go_loopg [7] 101 (fun g iv wr => ∃ (k : Nat) (x : St), k ≤ 100 ∧ g = 101 - k ∧ iv = .int .i64 k ∧ PI W l X x wr)
  case atStart => exact ⟨0, _, by omega, rfl, rfl, I1.out⟩
  case round =>
    obtain ⟨k, x, hk, rfl, rfl, I⟩ := hrel
    have HI := Lib.hid I
    clear I I1
    by_cases hlt : k < len
    · by_cases h100 : k < 100
      · obtain rfl := HA.out (by omega)
        obtain ⟨a0, a1, a2⟩ := HC.out k hlt
        have c0 := HI.out.grown.cell a0 (by simp)
        have c1 := HI.out.grown.cell a1 (by simp)
        have c2 := HI.out.grown.cell a2 (by simp)
        clear a0 a1 a2
        obtain ⟨K', hK⟩ : ∃ y, K k = y := ⟨_, rfl⟩
        obtain ⟨N', hN⟩ : ∃ y, N k = y := ⟨_, rfl⟩
        obtain ⟨M', hM⟩ : ∃ y, M k = y := ⟨_, rfl⟩
        rw [hK] at c0
        rw [hN] at c1
        rw [hM] at c2
        clear hK hN hM
        have hl2 : W.heap.size ≤ l := by omega
        go_wp2_with (first
          | (go_at_call 9; refine (p_sides HI.out hl2 hlX K' _ _).mono ?_; rintro e w3 ⟨y, B, rfl, J, R⟩; have HJ := Lib.hid J; have HR := Lib.hid R; have o1 := blk_cell J.opb 1; have o2 := blk_cell J.opb 2; obtain ⟨n0, n1, n2, n3, n4, n5, n6, n7, n8⟩ := nine_of J.blk; clear J R; simp only [List.getElem?_toArray, List.getElem?_cons_succ, List.getElem?_cons_zero] at o1 o2)
          | (go_at_call 11; refine (p_take HI.out hl2 hlX K' _ M').mono ?_; rintro e w3 ⟨y, B, rfl, J, R⟩; have HJ := Lib.hid J; have HR := Lib.hid R; have o1 := blk_cell J.opb 1; have o2 := blk_cell J.opb 2; obtain ⟨n0, n1, n2, n3, n4, n5, n6, n7, n8⟩ := nine_of J.blk; clear J R; simp only [List.getElem?_toArray, List.getElem?_cons_succ, List.getElem?_cons_zero] at o1 o2)
          | (go_at_call 13; refine (p_give HI.out hl2 hlX K' _ M').mono ?_; rintro e w3 ⟨y, B, rfl, J, R⟩; have HJ := Lib.hid J; have HR := Lib.hid R; have o1 := blk_cell J.opb 1; have o2 := blk_cell J.opb 2; obtain ⟨n0, n1, n2, n3, n4, n5, n6, n7, n8⟩ := nine_of J.blk; clear J R; simp only [List.getElem?_toArray, List.getElem?_cons_succ, List.getElem?_cons_zero] at o1 o2)
          | (go_at_call 15; refine (p_work HI.out hl2 hlX K' _ M').mono ?_; rintro e w3 ⟨y, B, rfl, J, R⟩; have HJ := Lib.hid J; have HR := Lib.hid R; have o1 := blk_cell J.opb 1; have o2 := blk_cell J.opb 2; obtain ⟨n0, n1, n2, n3, n4, n5, n6, n7, n8⟩ := nine_of J.blk; clear J R; simp only [List.getElem?_toArray, List.getElem?_cons_succ, List.getElem?_cons_zero] at o1 o2))
        all_goals try
          (refine (HR.out _).mono ?_
           rintro e w4 ⟨rfl, g4⟩
           have J4 := HJ.out.go g4
           have HJ4 := Lib.hid J4
           have fX := fun o => blk_free J4.blk o
           clear n0 n1 n2 n3 n4 n5 n6 n7 n8
           obtain ⟨n0, n1, n2, n3, n4, n5, n6, n7, n8⟩ := nine_of J4.blk
           clear J4 g4 HJ HR o1 o2
           go_wp2_with fail)
        all_goals first
          | (refine (p_first (HJ4.out.put hlX hXW)).mono ?_; clear HJ4 fX n0 n1 n2 n3 n4 n5 n6 n7 n8)
          | (obtain ⟨y, I5⟩ : ∃ y, PI W l X y (wr.alloc (.cells #[.int .i64 K', .int .i64 N', .int .i64 M'] 32)) := ⟨x, HI.out.go (World.grownBy_alloc _ _ _)⟩
             have HI5 := Lib.hid I5
             clear I5
             refine (p_first HI5.out).mono ?_
             clear HI5)
        all_goals
          rintro e w5 ⟨rfl, I5⟩
          have HI5 := Lib.hid (I5.go (World.grownBy_alloc w5 (.cells #[.int .i64 y.r, .int .i64 y.a] 39) none))
          have hX5 := blk_lt I5.blk
          clear I5
          obtain ⟨w6, hw6⟩ : ∃ w6, w5.alloc (.cells #[.int .i64 y.r, .int .i64 y.a] 39) = w6 := ⟨_, rfl⟩
          go_wp2_with fail
        all_goals
          have HI6 := Lib.hid (hw6 ▸ HI5.out)
          have F6 := hw6 ▸ blk_new w5 #[.int .i64 y.r, .int .i64 y.a] 39
          obtain ⟨n0, n1, n2, n3, n4, n5, n6, n7, n8⟩ := nine_of HI6.out.blk
          have m0 := blk_cell F6 0
          have m1 := blk_cell F6 1
          simp only [List.getElem?_toArray, List.getElem?_cons_succ, List.getElem?_cons_zero] at m0 m1
          have pb := HI6.out.ok.pb
          have ts := HI6.out.ok.ts
          clear HI5 hw6 F6
          go_quiet ((first
            | (go_at_call 18; exact quiet_left (q_bytes HI6.out _))
            | (go_at_call 19; exact quiet_left (q_peak HI6.out _))
            | (go_at_call 20; exact quiet_left (q_steps HI6.out _))
            | (go_at_call 21; exact quiet_left (q_broken HI6.out _))))
          go_wp2_with fail
          have e1 : decide (y.b < y.pk) = false := by simp; omega
          have e2 : decide (y.s < y.st) = false := by simp; omega
          go_quiet ((first
            | (go_at_call 19; exact quiet_add_left (q_peak HI6.out _))
            | (go_at_call 20; exact quiet_add_left (q_steps HI6.out _))))
          clear e1 e2
          go_wp2_with fail
          go_roundg (101 - (k + 1))
          case measure => omega
          case rel => exact ⟨k + 1, y, by omega, rfl, by go_num, HI6.out.drewN _⟩
      · go_wp2_with (go_at_call 22; refine (awake_calls _).mono ?_; rintro e w' ⟨rfl, g⟩)
        go_ret
        exact ⟨rfl, gb_trans HI.out.grown (by assumption)⟩
    · go_wp2_with (go_at_call 22; refine (awake_calls _).mono ?_; rintro e w' ⟨rfl, g⟩)
      go_ret
      exact ⟨rfl, gb_trans HI.out.grown (by assumption)⟩

end Go.Proofs.Ytlliahflnfhgpaa.Le
