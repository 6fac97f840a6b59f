/- The law SrcPlays, walked. -/
import Derived.Test.YtdcmbjhjfdjdhaaSrcP4
import Derived.Deep.LoopGhost
import Derived.Deep.RegionHeld3
import Derived.Deep.QuietTactic
import Derived.BigQuiet
import Derived.LaidEqlPtr
import Derived.Deep.CutRange
namespace Go.Proofs.Ytdcmbjhjfdjdhaa.Sr
open Go.ChangeShapes Go.WideShapes Go.ChangeAt Go.RowKit
open Go.Proofs.Ytdcmbjhjfdjdhaa.Le
set_option linter.unusedVariables false

/-- Any call of both leaves them the same. -/
def OneOk : Prop := ∀ (b l : Nat) (s : ByteArray) (p f t : Nat) (x : St) (k n m : Int), n ≤ 9223372036854775807 → ∀ w, SL b l s p f t x w →
  Calls Try.prog 13 #[.pointer (some ⟨b, 0, none⟩), .agg (SAc s p f t x), .agg #[.int .i64 k, .int .i64 n, .int .i64 m]] w (OneP b l s w)

/-- What holds at every round's head: c is the source, X the document's state of it. -/
structure PS (W : World) (l X : Nat) (s : ByteArray) (c p f t : Nat) (x : St) (w : World) : Prop where
  sl : SL c l s p f t x w
  blk : w.heap[X]? = some (.cells (SAc s p f t x) 37 (0, 0))
  grown : W.grownBy w none
  hl : W.heap.size ≤ l
  hc : W.heap.size ≤ c
  hX : W.heap.size ≤ X
  lX : l ≠ X
  cX : c ≠ X

theorem PS.go {W : World} {l X : Nat} {s : ByteArray} {c p f t : Nat} {x : St} {w w' : World} (J : PS W l X s c p f t x w) (g : w.grownBy w' none) : PS W l X s c p f t x w' :=
  ⟨J.sl.grown g, old0 g J.blk (blk_lt J.blk) (by simp), gb_trans J.grown g, J.hl, J.hc, J.hX, J.lX, J.cX⟩
/-- A call of both, from a round's head on. -/
theorem PS.one {W : World} {l X : Nat} {s : ByteArray} {c p f t : Nat} {x : St} {w w1 : World} (J : PS W l X s c p f t x w) {d q g u : Nat} {y : St} (S : SL d l s q g u y w1) (T : Tn w w1 [c, l]) (hd : d = c ∨ w.heap.size ≤ d) :
    (w1.heap[X]? = some (.cells (SAc s p f t x) 37 (0, 0)) ∧ W.grownBy w1 none) ∧ W.heap.size ≤ d ∧ d ≠ X := by
  have h1 := blk_lt J.blk
  have h2 := J.grown.size
  refine ⟨⟨(T.block X h1 (by simp; exact ⟨fun e => J.cX e.symm, fun e => J.lX e.symm⟩)).trans J.blk, Tn.own J.grown T (by simp; exact ⟨J.hc, J.hl⟩)⟩, ?_, ?_⟩
  · rcases hd with rfl | hd
    · exact J.hc
    · omega
  · rcases hd with rfl | hd
    · exact J.cX
    · omega

set_option maxHeartbeats 2000000 in
/-- The document's state is put where the elder one was. -/
theorem PS.put {W : World} {l X : Nat} {s : ByteArray} {p f t : Nat} {x : St} {w1 : World} {d q g u : Nat} {y : St} (S : SL d l s q g u y w1)
    (B : w1.heap[X]? = some (.cells (SAc s p f t x) 37 (0, 0))) (G : W.grownBy w1 none) (hl : W.heap.size ≤ l) (hd : W.heap.size ≤ d) (hX : W.heap.size ≤ X) (lX : l ≠ X) (dX : d ≠ X) :
    PS W l X s d q g u y (((((((((((((w1.setCell ⟨X, 0, none⟩ (.string s)).setCell ⟨X, 1, none⟩ (.int .i64 g)).setCell ⟨X, 2, none⟩ (.int .i64 u)).setCell ⟨X, 3, none⟩ (.int .i64 q)).setCell ⟨X, 4, none⟩ (.int .i64 y.w)).setCell ⟨X, 5, none⟩ (.int .i64 y.h)).setCell ⟨X, 6, none⟩ (.int .i64 y.b)).setCell ⟨X, 7, none⟩ (.int .i64 y.s)).setCell ⟨X, 8, none⟩ (.int .i64 y.by_)).setCell ⟨X, 9, none⟩ (.int .i64 y.pk)).setCell ⟨X, 10, none⟩ (.int .i64 y.st)).setCell ⟨X, 11, none⟩ (.int .i64 y.r)).setCell ⟨X, 12, none⟩ (.int .i64 y.a)) := by
  refine ⟨S.turned (S := [X]) ?_ (by simpa using dX) (by simpa using lX), ?_, ?_, hl, hd, hX, lX, dX⟩
  · repeat' (first | with_reducible exact Tn.refl w1 _ | with_reducible refine Tn.st ?_ (by simp))
  · have h := B
    unfold SAc at h ⊢
    have h := blk_set h 0 (.string s)
    simp only [List.setIfInBounds_toArray, List.set_cons_zero] at h
    have h := blk_set h 1 (.int .i64 g)
    simp only [List.setIfInBounds_toArray, List.set_cons_zero, List.set_cons_succ] at h
    have h := blk_set h 2 (.int .i64 u)
    simp only [List.setIfInBounds_toArray, List.set_cons_zero, List.set_cons_succ] at h
    have h := blk_set h 3 (.int .i64 q)
    simp only [List.setIfInBounds_toArray, List.set_cons_zero, List.set_cons_succ] at h
    have h := blk_set h 4 (.int .i64 y.w)
    simp only [List.setIfInBounds_toArray, List.set_cons_zero, List.set_cons_succ] at h
    have h := blk_set h 5 (.int .i64 y.h)
    simp only [List.setIfInBounds_toArray, List.set_cons_zero, List.set_cons_succ] at h
    have h := blk_set h 6 (.int .i64 y.b)
    simp only [List.setIfInBounds_toArray, List.set_cons_zero, List.set_cons_succ] at h
    have h := blk_set h 7 (.int .i64 y.s)
    simp only [List.setIfInBounds_toArray, List.set_cons_zero, List.set_cons_succ] at h
    have h := blk_set h 8 (.int .i64 y.by_)
    simp only [List.setIfInBounds_toArray, List.set_cons_zero, List.set_cons_succ] at h
    have h := blk_set h 9 (.int .i64 y.pk)
    simp only [List.setIfInBounds_toArray, List.set_cons_zero, List.set_cons_succ] at h
    have h := blk_set h 10 (.int .i64 y.st)
    simp only [List.setIfInBounds_toArray, List.set_cons_zero, List.set_cons_succ] at h
    have h := blk_set h 11 (.int .i64 y.r)
    simp only [List.setIfInBounds_toArray, List.set_cons_zero, List.set_cons_succ] at h
    have h := blk_set h 12 (.int .i64 y.a)
    simp only [List.setIfInBounds_toArray, List.set_cons_zero, List.set_cons_succ] at h
    exact h
  · repeat' (first | with_reducible exact G | with_reducible refine gb_st ?_ hX)

set_option maxHeartbeats 2000000 in
/-- Thirteen cells are written over. -/
theorem put13 {w : World} {B : Nat} {c0 c1 c2 c3 c4 c5 c6 c7 c8 c9 c10 c11 c12 : Value} {ty : TypeId} (h : w.heap[B]? = some (.cells #[c0, c1, c2, c3, c4, c5, c6, c7, c8, c9, c10, c11, c12] ty (0, 0))) (s : ByteArray) (p f t : Nat) (x : St) :
    (((((((((((((w.setCell ⟨B, 0, none⟩ (.string s)).setCell ⟨B, 1, none⟩ (.int .i64 f)).setCell ⟨B, 2, none⟩ (.int .i64 t)).setCell ⟨B, 3, none⟩ (.int .i64 p)).setCell ⟨B, 4, none⟩ (.int .i64 x.w)).setCell ⟨B, 5, none⟩ (.int .i64 x.h)).setCell ⟨B, 6, none⟩ (.int .i64 x.b)).setCell ⟨B, 7, none⟩ (.int .i64 x.s)).setCell ⟨B, 8, none⟩ (.int .i64 x.by_)).setCell ⟨B, 9, none⟩ (.int .i64 x.pk)).setCell ⟨B, 10, none⟩ (.int .i64 x.st)).setCell ⟨B, 11, none⟩ (.int .i64 x.r)).setCell ⟨B, 12, none⟩ (.int .i64 x.a)).heap[B]? = some (.cells (SAc s p f t x) ty (0, 0)) := by
  unfold SAc
  have h := blk_set h 0 (.string s)
  simp only [List.setIfInBounds_toArray, List.set_cons_zero] at h
  have h := blk_set h 1 (.int .i64 f)
  simp only [List.setIfInBounds_toArray, List.set_cons_zero, List.set_cons_succ] at h
  have h := blk_set h 2 (.int .i64 t)
  simp only [List.setIfInBounds_toArray, List.set_cons_zero, List.set_cons_succ] at h
  have h := blk_set h 3 (.int .i64 p)
  simp only [List.setIfInBounds_toArray, List.set_cons_zero, List.set_cons_succ] at h
  have h := blk_set h 4 (.int .i64 x.w)
  simp only [List.setIfInBounds_toArray, List.set_cons_zero, List.set_cons_succ] at h
  have h := blk_set h 5 (.int .i64 x.h)
  simp only [List.setIfInBounds_toArray, List.set_cons_zero, List.set_cons_succ] at h
  have h := blk_set h 6 (.int .i64 x.b)
  simp only [List.setIfInBounds_toArray, List.set_cons_zero, List.set_cons_succ] at h
  have h := blk_set h 7 (.int .i64 x.s)
  simp only [List.setIfInBounds_toArray, List.set_cons_zero, List.set_cons_succ] at h
  have h := blk_set h 8 (.int .i64 x.by_)
  simp only [List.setIfInBounds_toArray, List.set_cons_zero, List.set_cons_succ] at h
  have h := blk_set h 9 (.int .i64 x.pk)
  simp only [List.setIfInBounds_toArray, List.set_cons_zero, List.set_cons_succ] at h
  have h := blk_set h 10 (.int .i64 x.st)
  simp only [List.setIfInBounds_toArray, List.set_cons_zero, List.set_cons_succ] at h
  have h := blk_set h 11 (.int .i64 x.r)
  simp only [List.setIfInBounds_toArray, List.set_cons_zero, List.set_cons_succ] at h
  have h := blk_set h 12 (.int .i64 x.a)
  simp only [List.setIfInBounds_toArray, List.set_cons_zero, List.set_cons_succ] at h
  exact h

/-- Behind a call of both: d is the source, Q holds the document's state, X the elder one. -/
structure MQ (W : World) (l X : Nat) (s : ByteArray) (p f t : Nat) (x : St) (d Q q g u : Nat) (y : St) (w : World) : Prop where
  sl : SL d l s q g u y w
  bX : w.heap[X]? = some (.cells (SAc s p f t x) 37 (0, 0))
  bQ : w.heap[Q]? = some (.cells (SAc s q g u y) 37 (0, 0))
  gr : W.grownBy w none
  hd : W.heap.size ≤ d
  dX : d ≠ X
  QX : Q ≠ X

theorem bk_dr {w : World} {b : Nat} {x : Option Obj} (h : w.heap[b]? = x) : w.drew.heap[b]? = x := h
theorem nd_of {d c : Nat} {w : World} {o : Obj} (hd : d = c ∨ (w.alloc o).drew.heap.size ≤ d) (hc : c < w.heap.size) : ¬ d = w.heap.size := by
  rcases hd with h | h
  · omega
  · have h2 : (w.alloc o).heap.size ≤ d := h
    rw [size_alloc] at h2
    omega
theorem cell_lt {w : World} {b o : Nat} {v : Value} (h : w.cell? ⟨b, o, none⟩ = some v) : b < w.heap.size := by
  rcases Nat.lt_or_ge b w.heap.size with h' | h'
  · exact h'
  · simp [World.cell?, Array.getElem?_eq_none h'] at h

theorem abs_w {Q R : World → Prop} {w : World} (h : R w) (k : ∀ w', R w' → Q w') : Q w := k w h

theorem quiet_is {P : Program} {f : FuncId} {args : Array Value} {w : World} {n : Nat} {v : Value}
    (h : Calls P f args (w.drewN n) fun e w' => e = .returned v ∧ w.drewN n = w') : Calls P f args (w.drewN n) fun e w'' => e = .returned v ∧ ∃ m, w'' = w.drewN m :=
  h.mono fun _ _ ⟨he, hm⟩ => ⟨he, n, hm.symm⟩
theorem quiet_dn {P : Program} {f : FuncId} {args : Array Value} {w : World} {n : Nat} {v : Value}
    (h : Calls P f args (w.drewN n) fun e w' => e = .returned v ∧ ∃ m, w' = (w.drewN n).drewN m) : Calls P f args (w.drewN n) fun e w'' => e = .returned v ∧ ∃ m, w'' = w.drewN m :=
  h.mono fun _ _ ⟨he, m, hm⟩ => ⟨he, n + m, by rw [hm]; simp [World.drewN, Nat.add_assoc]⟩

theorem neq_ptr_same {P : Program} (w : World) {tp te : TypeId} {j : TypeInfo} (a : Addr) (hp : P.underlying tp = some (.pointer te)) (hte : P.info? te = some j) :
    (binOp .neq tp (.pointer (some a)) (.pointer (some a))).run P w = .ok (.bool false) w := by
  have h : ∀ d : Nat, (Op.equalIn (d + 1) tp (.pointer (some a)) (.pointer (some a))).run P w = .ok true w := fun d => by
    simp [Op.equalIn, run_underlying hp, sizeOf, typeInfo, hte, run_sameAddr_same]
  simp only [binOp]
  simp [Op.equal, Op.maxDepth, h 9999]
theorem neq_led (w : World) (l : Nat) : (binOp .neq 24 (.pointer (some ⟨l, 0, none⟩)) (.pointer (some ⟨l, 0, none⟩))).run Try.prog w = .ok (.bool false) w := by
  obtain ⟨j, hj⟩ := Option.isSome_iff_exists.1 (show (Try.prog.info? 85).isSome = true by kernel_rfl)
  exact neq_ptr_same w _ (by kernel_rfl) hj

section
variable {W : World} {l X : Nat} {s : ByteArray} {c p f t : Nat} {x : St} {w : World}
theorem q_at (I : PS W l X s c p f t x w) (n : Nat) : Calls Try.prog 14 #[.pointer (some ⟨c, 0, none⟩)] (w.drewN n) fun e w' => e = .returned (.int .i64 p) ∧ w.drewN n = w' :=
  at_calls c l s p f t _ (I.go (gb_drewN _ n none)).sl.so
theorem q_from (I : PS W l X s c p f t x w) (n : Nat) : Calls Try.prog 15 #[.pointer (some ⟨c, 0, none⟩)] (w.drewN n) fun e w' => e = .returned (.int .i64 f) ∧ w.drewN n = w' :=
  from_calls c l s p f t _ (I.go (gb_drewN _ n none)).sl.so
theorem q_to (I : PS W l X s c p f t x w) (n : Nat) : Calls Try.prog 16 #[.pointer (some ⟨c, 0, none⟩)] (w.drewN n) fun e w' => e = .returned (.int .i64 t) ∧ w.drewN n = w' :=
  to_calls c l s p f t _ (I.go (gb_drewN _ n none)).sl.so
theorem q_left (I : PS W l X s c p f t x w) (n : Nat) : Calls Try.prog 17 #[.pointer (some ⟨c, 0, none⟩)] (w.drewN n) fun e w' => e = .returned (.int .i64 ((t : Int) - p)) ∧ ∃ m, w' = (w.drewN n).drewN m :=
  left_calls c l s p f t _ (I.go (gb_drewN _ n none)).sl.so
theorem q_steps (I : PS W l X s c p f t x w) (n : Nat) : Calls Try.prog 18 #[.pointer (some ⟨l, 0, none⟩)] (w.drewN n) fun e w' => e = .returned (.int .i64 x.st) ∧ w.drewN n = w' :=
  steps_calls l x.ls _ (I.go (gb_drewN _ n none)).sl.led
end

set_option maxRecDepth 100000 in
set_option maxHeartbeats 40000000 in
theorem plays_walk (HO : OneOk) (s : ByteArray) (work fmt : Int) (a : Option Addr) (b off len cap : Nat) (K N M : Nat → Int) (W : World) (ha : 0 < len → a = some ⟨b, off, none⟩) (hs : s.size ≤ 300)
    (hw : work ≤ 9223372036854775807) (hbig : len ≤ 9223372036854775807) (hN : ∀ i, i < len → N i ≤ 9223372036854775807)
    (hc : ∀ i, i < len → W.cell? ⟨b, off + i * 3, none⟩ = some (.int .i64 (K i)) ∧ W.cell? ⟨b, off + i * 3 + 1, none⟩ = some (.int .i64 (N i)) ∧ W.cell? ⟨b, off + i * 3 + 2, none⟩ = some (.int .i64 (M i))) :
    Calls Try.prog 3 #[.string s, .int .i64 work, .slice a len cap, .int .i64 fmt] W
      fun e w' => e = .returned (.bool true) ∧ W.grownBy w' none := by
  have hne := neq_led
  have ok0 := Lib.hid (St.new_ok (w := 0) (h := 0) (b := 0) (s := work) (by decide) (by decide) (by decide) hw)
  have HC := Lib.hid hc
  have HA := Lib.hid ha
  have HNN := Lib.hid hN
  clear hc ha hw hN
  go_enter Try.func3, Try.ntmps3
  go_wp2_with fail
  refine (new_calls 0 0 0 work _).mono ?_
  rintro e w0 ⟨l, rfl, L0, g0, hl⟩
  have H0 := Lib.hid L0
  have G0 := Lib.hid g0
  have l0 := L0.lt
  clear L0 g0
  go_wp2_with fail
  refine (snew_calls l s _ (by omega)).mono ?_
  rintro e w1 ⟨c, rfl, S1, g1, hcc⟩
  have H1 := Lib.hid (H0.out.grown g1 (by simp))
  have G1 := Lib.hid (gb_trans G0.out g1)
  have S1' := Lib.hid (S1 l0)
  have hW := G0.out.size
  clear S1 g1 H0 G0
  go_wp2_with fail
  refine (ledger_calls c l s _ _ _ _ S1'.out).mono ?_
  rintro e w' ⟨rfl, rfl⟩
  go_wp2_with fail
  refine (rnew_calls 0 0 0 work _).mono ?_
  rintro e w2 ⟨rfl, g2⟩
  have SL2 := Lib.hid (SL.grown (show SL c l s 0 0 s.size (St.new 0 0 0 work) w1 from ⟨S1'.out, H1.out, ok0.out⟩) g2)
  have G2 := Lib.hid (gb_trans G1.out g2)
  have c2 := SL2.out.so.lt
  have l2 := SL2.out.led.lt
  clear g2 H1 G1 S1' ok0
  unfold St.agg
  go_wp2_with fail
  obtain ⟨X, hX⟩ : ∃ X, w2.heap.size = X := ⟨_, rfl⟩
  obtain ⟨w3, hw3⟩ : ∃ w3, w2.alloc (.cells (SAc s 0 0 s.size (St.new 0 0 0 work)) 37) = w3 := ⟨_, rfl⟩
  have P0 := Lib.hid (show PS W l X s c 0 0 s.size (St.new 0 0 0 work) w3 from
    ⟨hw3 ▸ SL2.out.grown (World.grownBy_alloc _ _ none), by rw [← hw3, ← hX]; exact blk_new _ _ _, hw3 ▸ gb_trans G2.out (World.grownBy_alloc _ _ _), by omega, by omega, by have := G2.out.size; omega, by omega, by omega⟩)
  unfold SAc at hw3
  simp only [hX, hw3]
  clear c2 l2 hX hw3 G2 SL2 hW hcc hl l0
  go_loopg [10, 13] 81 (fun g pv iv wr => ∃ (k c p f t : Nat) (x : St), k ≤ 80 ∧ g = 81 - k ∧ pv = .pointer (some ⟨c, 0, none⟩) ∧ iv = .int .i64 k ∧ PS W l X s c p f t x wr)
  case atStart => exact ⟨0, c, 0, 0, s.size, _, by omega, rfl, rfl, rfl, P0.out⟩
  case round =>
    clear P0
    obtain ⟨k, c, p, f, t, x, hk, rfl, rfl, rfl, I⟩ := hrel
    have HI := Lib.hid I
    clear I
    by_cases hlt : k < len
    · by_cases h80 : k < 80
      · obtain rfl := HA.out (by omega)
        obtain ⟨a0, a1, a2⟩ := HC.out k hlt
        have hN := HNN.out k hlt
        obtain ⟨K', hK⟩ : ∃ y, K k = y := ⟨_, rfl⟩
        obtain ⟨N', hNN⟩ : ∃ y, N k = y := ⟨_, rfl⟩
        obtain ⟨M', hM⟩ : ∃ y, M k = y := ⟨_, rfl⟩
        rw [hK] at a0
        rw [hNN] at a1 hN
        rw [hM] at a2
        have c0 := HI.out.grown.cell a0 (by simp)
        have c1 := HI.out.grown.cell a1 (by simp)
        have c2 := HI.out.grown.cell a2 (by simp)
        have A0 := Lib.hid a0
        have A1 := Lib.hid a1
        have A2 := Lib.hid a2
        clear hK hNN hM a0 a1 a2
        have BX := HI.out.blk
        have hXw := blk_lt BX
        have cXw := HI.out.sl.so.lt
        have lXw := HI.out.sl.led.lt
        unfold SAc at BX
        have v0 := blk_cell BX 0
        have v1 := blk_cell BX 1
        have v2 := blk_cell BX 2
        have v3 := blk_cell BX 3
        have v4 := blk_cell BX 4
        have v5 := blk_cell BX 5
        have v6 := blk_cell BX 6
        have v7 := blk_cell BX 7
        have v8 := blk_cell BX 8
        have v9 := blk_cell BX 9
        have v10 := blk_cell BX 10
        have v11 := blk_cell BX 11
        have v12 := blk_cell BX 12
        simp only [List.getElem?_toArray, List.getElem?_cons_succ, List.getElem?_cons_zero] at v0 v1 v2 v3 v4 v5 v6 v7 v8 v9 v10 v11 v12
        have bw := cell_lt c0
        have n1 : ¬ X = wr.heap.size := by omega
        have n2 : ¬ wr.heap.size = X := by omega
        have n3 : ¬ b = wr.heap.size := by omega
        have n4 : ¬ wr.heap.size = b := by omega
        have KO := fun w h => HO c l s p f t x K' N' M' hN w h
        clear BX hN
        unfold OneP SAc at KO
        have KO := Lib.hid KO
        go_wp2_with fail
        go_cut [14, 15, 16] from 51 to 131 (fun s14 s15 s16 wx => ∃ (d Q q g u : Nat) (y : St), s14 = .pointer (some ⟨d, 0, none⟩) ∧ s15 = .pointer (some ⟨Q, 0, none⟩) ∧ s16 = .bool true ∧ MQ W l X s p f t x d Q q g u y wx)
        case first =>
          go_region_held3 (fun w' => w'.cell? ⟨X, 0, none⟩ = some (.string s) ∧ w'.cell? ⟨X, 1, none⟩ = some (.int .i64 f) ∧ w'.cell? ⟨X, 2, none⟩ = some (.int .i64 t) ∧ w'.cell? ⟨X, 3, none⟩ = some (.int .i64 p) ∧ w'.cell? ⟨X, 4, none⟩ = some (.int .i64 x.w) ∧ w'.cell? ⟨X, 5, none⟩ = some (.int .i64 x.h) ∧ w'.cell? ⟨X, 6, none⟩ = some (.int .i64 x.b) ∧ w'.cell? ⟨X, 7, none⟩ = some (.int .i64 x.s) ∧ w'.cell? ⟨X, 8, none⟩ = some (.int .i64 x.by_) ∧ w'.cell? ⟨X, 9, none⟩ = some (.int .i64 x.pk) ∧ w'.cell? ⟨X, 10, none⟩ = some (.int .i64 x.st) ∧ w'.cell? ⟨X, 11, none⟩ = some (.int .i64 x.r) ∧ w'.cell? ⟨X, 12, none⟩ = some (.int .i64 x.a) ∧ w'.cell? ⟨b, off + k * 3, none⟩ = some (.int .i64 K') ∧ w'.cell? ⟨b, off + k * 3 + 1, none⟩ = some (.int .i64 N') ∧ w'.cell? ⟨b, off + k * 3 + 2, none⟩ = some (.int .i64 M')) (go_keep) (first
            | (go_at_call 13; refine (KO.out _ (HI.out.go (gb_drew _ _)).sl).mono ?_; rintro e w4 ⟨d, q, g, u, y, rfl, ⟨S4, T4⟩, hd⟩; have S4' := Lib.hid S4; have Q4 := HI.out.go (gb_drew _ none); have R4 := Q4.one S4 T4 hd; have G4 := Lib.hid R4.1; have d1 := R4.2.1; have d2 := R4.2.2; have X4 := R4.1.1; have p0 := R4.1.2.cell A0.out (by simp); have p1 := R4.1.2.cell A1.out (by simp); have p2 := R4.1.2.cell A2.out (by simp); unfold SAc at X4; have u0 := blk_cell X4 0; have u1 := blk_cell X4 1; have u2 := blk_cell X4 2; have u3 := blk_cell X4 3; have u4 := blk_cell X4 4; have u5 := blk_cell X4 5; have u6 := blk_cell X4 6; have u7 := blk_cell X4 7; have u8 := blk_cell X4 8; have u9 := blk_cell X4 9; have u10 := blk_cell X4 10; have u11 := blk_cell X4 11; have u12 := blk_cell X4 12; simp only [List.getElem?_toArray, List.getElem?_cons_succ, List.getElem?_cons_zero] at u0 u1 u2 u3 u4 u5 u6 u7 u8 u9 u10 u11 u12; have uz0 := blk_free X4 0; have uz1 := blk_free X4 1; have uz2 := blk_free X4 2; have uz3 := blk_free X4 3; have uz4 := blk_free X4 4; have uz5 := blk_free X4 5; have uz6 := blk_free X4 6; have uz7 := blk_free X4 7; have uz8 := blk_free X4 8; have uz9 := blk_free X4 9; have uz10 := blk_free X4 10; have uz11 := blk_free X4 11; have uz12 := blk_free X4 12; have X4' := Lib.hid R4.1.1; have xw4 := blk_lt X4; have dw4 := S4.so.lt; have lw4 := S4.led.lt; clear S4 T4 hd Q4 R4)
            | (go_at_call 13; refine (KO.out _ (HI.out.go (gb_trans (World.grownBy_alloc _ _ _) (gb_drew _ _))).sl).mono ?_; rintro e w4 ⟨d, q, g, u, y, rfl, ⟨S4, T4⟩, hd⟩; have S4' := Lib.hid S4; have Q4 := HI.out.go (gb_trans (World.grownBy_alloc _ (.cells #[.string ⟨#[]⟩, .int .i64 0, .int .i64 0, .int .i64 0, .int .i64 0, .int .i64 0, .int .i64 0, .int .i64 0, .int .i64 0, .int .i64 0, .int .i64 0, .int .i64 0, .int .i64 0] 37) none) (gb_drew _ none)); have R4 := Q4.one S4 T4 hd; have G4 := Lib.hid R4.1; have d1 := R4.2.1; have d2 := R4.2.2; have X4 := R4.1.1; have p0 := R4.1.2.cell A0.out (by simp); have p1 := R4.1.2.cell A1.out (by simp); have p2 := R4.1.2.cell A2.out (by simp); unfold SAc at X4; have u0 := blk_cell X4 0; have u1 := blk_cell X4 1; have u2 := blk_cell X4 2; have u3 := blk_cell X4 3; have u4 := blk_cell X4 4; have u5 := blk_cell X4 5; have u6 := blk_cell X4 6; have u7 := blk_cell X4 7; have u8 := blk_cell X4 8; have u9 := blk_cell X4 9; have u10 := blk_cell X4 10; have u11 := blk_cell X4 11; have u12 := blk_cell X4 12; simp only [List.getElem?_toArray, List.getElem?_cons_succ, List.getElem?_cons_zero] at u0 u1 u2 u3 u4 u5 u6 u7 u8 u9 u10 u11 u12; have uz0 := blk_free X4 0; have uz1 := blk_free X4 1; have uz2 := blk_free X4 2; have uz3 := blk_free X4 3; have uz4 := blk_free X4 4; have uz5 := blk_free X4 5; have uz6 := blk_free X4 6; have uz7 := blk_free X4 7; have uz8 := blk_free X4 8; have uz9 := blk_free X4 9; have uz10 := blk_free X4 10; have uz11 := blk_free X4 11; have uz12 := blk_free X4 12; have X4' := Lib.hid R4.1.1; have xw4 := blk_lt X4; have dw4 := S4.so.lt; have lw4 := S4.led.lt; have nd := nd_of hd cXw; have Z4 : w4.heap[wr.heap.size]? = some (.cells #[.string ⟨#[]⟩, .int .i64 0, .int .i64 0, .int .i64 0, .int .i64 0, .int .i64 0, .int .i64 0, .int .i64 0, .int .i64 0, .int .i64 0, .int .i64 0, .int .i64 0, .int .i64 0] 37 (0, 0)) := (T4.block _ (by show _ < (wr.alloc _).heap.size; rw [size_alloc]; omega) (by simp; omega)).trans blk_at; have zw4 := blk_lt Z4; have z0 := blk_cell Z4 0; have z1 := blk_cell Z4 1; have z2 := blk_cell Z4 2; have z3 := blk_cell Z4 3; have z4 := blk_cell Z4 4; have z5 := blk_cell Z4 5; have z6 := blk_cell Z4 6; have z7 := blk_cell Z4 7; have z8 := blk_cell Z4 8; have z9 := blk_cell Z4 9; have z10 := blk_cell Z4 10; have z11 := blk_cell Z4 11; have z12 := blk_cell Z4 12; simp only [List.getElem?_toArray, List.getElem?_cons_succ, List.getElem?_cons_zero] at z0 z1 z2 z3 z4 z5 z6 z7 z8 z9 z10 z11 z12; have zz0 := blk_free Z4 0; have zz1 := blk_free Z4 1; have zz2 := blk_free Z4 2; have zz3 := blk_free Z4 3; have zz4 := blk_free Z4 4; have zz5 := blk_free Z4 5; have zz6 := blk_free Z4 6; have zz7 := blk_free Z4 7; have zz8 := blk_free Z4 8; have zz9 := blk_free Z4 9; have zz10 := blk_free Z4 10; have zz11 := blk_free Z4 11; have zz12 := blk_free Z4 12; have HZ4 := Lib.hid Z4; clear Z4 S4 T4 hd Q4 R4))
          all_goals
            first
            | (refine abs_w (R := MQ W l X s p f t x d w4.heap.size q g u y) ?_ (fun w5 C5 => ?_)
               · with_reducible refine ⟨S4'.out.grown ?_, blk_al X4'.out _, blk_at, gb_trans G4.out.2 ?_, d1, d2, ?_⟩
                 · with_reducible exact World.grownBy_alloc _ _ none
                 · with_reducible exact World.grownBy_alloc _ _ none
                 · omega
               · clear u0 u1 u2 u3 u4 u5 u6 u7 u8 u9 u10 u11 u12 uz0 uz1 uz2 uz3 uz4 uz5 uz6 uz7 uz8 uz9 uz10 uz11 uz12 S4' X4' G4
                 go_wp2_with fail
                 go_meet
                 exact ⟨d, _, q, g, u, y, rfl, rfl, rfl, C5⟩)
            | (refine abs_w (R := MQ W l X s p f t x d wr.heap.size q g u y) ?_ (fun w5 C5 => ?_)
               · with_reducible refine ⟨S4'.out.turned (S := [wr.heap.size]) ?_ ?_ ?_, ?_, put13 HZ4.out s q g u y, ?_, d1, d2, ?_⟩
                 · repeat' (first | with_reducible exact Tn.refl w4 _ | with_reducible refine Tn.st ?_ (by simp) | with_reducible refine Tn.dr ?_)
                 · simpa using nd
                 · simp; omega
                 · repeat' (first | with_reducible exact X4'.out | with_reducible refine blk_other ?_ n1)
                 · repeat' (first | with_reducible exact G4.out.2 | with_reducible refine gb_st ?_ (by have := HI.out.grown.size; omega) | with_reducible refine gb_dr ?_)
                 · exact fun h => n2 h
               · clear u0 u1 u2 u3 u4 u5 u6 u7 u8 u9 u10 u11 u12 uz0 uz1 uz2 uz3 uz4 uz5 uz6 uz7 uz8 uz9 uz10 uz11 uz12 z0 z1 z2 z3 z4 z5 z6 z7 z8 z9 z10 z11 z12 S4' X4' G4
                 go_wp2_with fail
                 go_meet
                 exact ⟨d, _, q, g, u, y, rfl, rfl, rfl, C5⟩)
        case rest =>
          obtain ⟨d, Q, q, g, u, y, rfl, rfl, rfl, C⟩ := hcut
          have hl2 := HI.out.hl
          have hX2 := HI.out.hX
          have lX2 := HI.out.lX
          have BX := C.bX
          have BQ := C.bQ
          have xwc := blk_lt BX
          have qwc := blk_lt BQ
          have nQ := C.QX
          have nQ' : ¬ X = Q := fun h => nQ h.symm
          have HC5 := Lib.hid C
          unfold SAc at BX BQ
          have v0 := blk_cell BX 0
          have v1 := blk_cell BX 1
          have v2 := blk_cell BX 2
          have v3 := blk_cell BX 3
          have v4 := blk_cell BX 4
          have v5 := blk_cell BX 5
          have v6 := blk_cell BX 6
          have v7 := blk_cell BX 7
          have v8 := blk_cell BX 8
          have v9 := blk_cell BX 9
          have v10 := blk_cell BX 10
          have v11 := blk_cell BX 11
          have v12 := blk_cell BX 12
          simp only [List.getElem?_toArray, List.getElem?_cons_succ, List.getElem?_cons_zero] at v0 v1 v2 v3 v4 v5 v6 v7 v8 v9 v10 v11 v12
          have vz0 := blk_free BX 0
          have vz1 := blk_free BX 1
          have vz2 := blk_free BX 2
          have vz3 := blk_free BX 3
          have vz4 := blk_free BX 4
          have vz5 := blk_free BX 5
          have vz6 := blk_free BX 6
          have vz7 := blk_free BX 7
          have vz8 := blk_free BX 8
          have vz9 := blk_free BX 9
          have vz10 := blk_free BX 10
          have vz11 := blk_free BX 11
          have vz12 := blk_free BX 12
          have z0 := blk_cell BQ 0
          have z1 := blk_cell BQ 1
          have z2 := blk_cell BQ 2
          have z3 := blk_cell BQ 3
          have z4 := blk_cell BQ 4
          have z5 := blk_cell BQ 5
          have z6 := blk_cell BQ 6
          have z7 := blk_cell BQ 7
          have z8 := blk_cell BQ 8
          have z9 := blk_cell BQ 9
          have z10 := blk_cell BQ 10
          have z11 := blk_cell BQ 11
          have z12 := blk_cell BQ 12
          simp only [List.getElem?_toArray, List.getElem?_cons_succ, List.getElem?_cons_zero] at z0 z1 z2 z3 z4 z5 z6 z7 z8 z9 z10 z11 z12
          clear BX BQ C c0 c1 c2 KO
          go_wp2_with fail
          go_region
          all_goals
            refine abs_w (R := PS W l X s d q g u y) ?_ (fun w5 I5 => ?_)
            · with_reducible exact (PS.put HC5.out.sl HC5.out.bX HC5.out.gr hl2 HC5.out.hd hX2 lX2 HC5.out.dX).go (gb_drew _ none)
            · clear v0 v1 v2 v3 v4 v5 v6 v7 v8 v9 v10 v11 v12 vz0 vz1 vz2 vz3 vz4 vz5 vz6 vz7 vz8 vz9 vz10 vz11 vz12 z0 z1 z2 z3 z4 z5 z6 z7 z8 z9 z10 z11 z12 xwc qwc nQ nQ' HC5
              have HI5 := Lib.hid I5
              have BX5 := I5.blk
              have h1 := I5.sl.so.pt
              have h2 := I5.sl.so.ts
              have xw5 := blk_lt BX5
              unfold SAc at BX5
              have m0 := blk_cell BX5 0
              have m1 := blk_cell BX5 1
              have m2 := blk_cell BX5 2
              have m3 := blk_cell BX5 3
              have m4 := blk_cell BX5 4
              have m5 := blk_cell BX5 5
              have m6 := blk_cell BX5 6
              have m7 := blk_cell BX5 7
              have m8 := blk_cell BX5 8
              have m9 := blk_cell BX5 9
              have m10 := blk_cell BX5 10
              have m11 := blk_cell BX5 11
              have m12 := blk_cell BX5 12
              simp only [List.getElem?_toArray, List.getElem?_cons_succ, List.getElem?_cons_zero] at m0 m1 m2 m3 m4 m5 m6 m7 m8 m9 m10 m11 m12
              clear BX5 I5
              go_wp2_with fail
              go_quiet ((first
                | (go_at_call 14; exact quiet_is (q_at HI5.out _))
                | (go_at_call 15; exact quiet_is (q_from HI5.out _))
                | (go_at_call 16; exact quiet_is (q_to HI5.out _))
                | (go_at_call 17; exact quiet_dn (q_left HI5.out _))
                | (go_at_call 18; exact quiet_is (q_steps HI5.out _))))
              refine abs_w (R := PS W l X s d q g u y) (HI5.out.go (gb_drewN _ _ none)) (fun w6 I6 => ?_)
              clear m0 m1 m2 m3 m4 m5 m6 m7 m8 m9 m10 m11 m12 xw5 HI5
              have HI6 := Lib.hid I6
              have BX6 := I6.blk
              have xw6 := blk_lt BX6
              unfold SAc at BX6
              have m0 := blk_cell BX6 0
              have m1 := blk_cell BX6 1
              have m2 := blk_cell BX6 2
              have m3 := blk_cell BX6 3
              have m4 := blk_cell BX6 4
              have m5 := blk_cell BX6 5
              have m6 := blk_cell BX6 6
              have m7 := blk_cell BX6 7
              have m8 := blk_cell BX6 8
              have m9 := blk_cell BX6 9
              have m10 := blk_cell BX6 10
              have m11 := blk_cell BX6 11
              have m12 := blk_cell BX6 12
              simp only [List.getElem?_toArray, List.getElem?_cons_succ, List.getElem?_cons_zero] at m0 m1 m2 m3 m4 m5 m6 m7 m8 m9 m10 m11 m12
              clear BX6 I6
              by_cases hr : y.r = 0
              ·
                have e1 : (y.r != 0) = false := by simp [hr]
                have KF := fun w (I : PS W l X s d q g u y w) => fault_calls d l s q g u y fmt w I.sl.so I.sl.led
                rw [if_pos hr] at KF
                have KF := Lib.hid KF
                go_wp2_with fail
                obtain ⟨Y, hY⟩ : ∃ Y, w6.heap.size = Y := ⟨_, rfl⟩
                refine abs_w (R := fun w7 => w7.heap[Y]? = some (.cells #[.int .i64 1, .int .i64 fmt, .int .i64 u] 44 (0, 0)) ∧ PS W l X s d q g u y w7) ?_ (fun w7 R7 => ?_)
                · exact ⟨by rw [← hY]; exact blk_at, HI6.out.go (World.grownBy_alloc _ _ none)⟩
                simp only [hY]
                have I7 := Lib.hid R7.2
                have B7 := Lib.hid R7.1
                have b7 := R7.1
                have y0 := blk_cell b7 0
                have y1 := blk_cell b7 1
                have y2 := blk_cell b7 2
                simp only [List.getElem?_toArray, List.getElem?_cons_succ, List.getElem?_cons_zero] at y0 y1 y2
                clear R7 b7 hY HI6 xw6 m0 m1 m2 m3 m4 m5 m6 m7 m8 m9 m10 m11 m12
                go_region_held3 (fun w' => w'.cell? ⟨Y, 0, none⟩ = some (.int .i64 1) ∧ w'.cell? ⟨Y, 1, none⟩ = some (.int .i64 fmt) ∧ w'.cell? ⟨Y, 2, none⟩ = some (.int .i64 u)) (go_keep)
                  (first
                  | (go_at_call 19; refine (KF.out _ (I7.out.go (gb_drew _ _))).mono ?_; rintro e w8 ⟨rfl, g8⟩; have I8 := Lib.hid ((I7.out.go (gb_drew _ none)).go g8); have b8 := old0 (gb_trans (gb_drew _ none) g8) B7.out (blk_lt B7.out) (by simp); have t0 := blk_cell b8 0; have t1 := blk_cell b8 1; have t2 := blk_cell b8 2; simp only [List.getElem?_toArray, List.getElem?_cons_succ, List.getElem?_cons_zero] at t0 t1 t2; clear g8 b8))
                all_goals
                  go_wp2_with fail
                  go_roundg (81 - (k + 1))
                  case measure => omega
                  case rel => exact ⟨k + 1, d, q, g, u, y, by omega, rfl, rfl, by go_num, I8.out⟩
              ·
                have e1 : (y.r != 0) = true := by simp [hr]
                have KF := fun w (I : PS W l X s d q g u y w) => fault_calls d l s q g u y fmt w I.sl.so I.sl.led
                rw [if_neg hr] at KF
                have KF := Lib.hid KF
                go_wp2_with fail
                obtain ⟨Y, hY⟩ : ∃ Y, w6.heap.size = Y := ⟨_, rfl⟩
                refine abs_w (R := fun w7 => w7.heap[Y]? = some (.cells #[.int .i64 4, .int .i64 fmt, .int .i64 q] 44 (0, 0)) ∧ PS W l X s d q g u y w7) ?_ (fun w7 R7 => ?_)
                · exact ⟨by rw [← hY]; exact blk_at, HI6.out.go (World.grownBy_alloc _ _ none)⟩
                simp only [hY]
                have I7 := Lib.hid R7.2
                have B7 := Lib.hid R7.1
                have b7 := R7.1
                have y0 := blk_cell b7 0
                have y1 := blk_cell b7 1
                have y2 := blk_cell b7 2
                simp only [List.getElem?_toArray, List.getElem?_cons_succ, List.getElem?_cons_zero] at y0 y1 y2
                clear R7 b7 hY HI6 xw6 m0 m1 m2 m3 m4 m5 m6 m7 m8 m9 m10 m11 m12
                go_region_held3 (fun w' => w'.cell? ⟨Y, 0, none⟩ = some (.int .i64 4) ∧ w'.cell? ⟨Y, 1, none⟩ = some (.int .i64 fmt) ∧ w'.cell? ⟨Y, 2, none⟩ = some (.int .i64 q)) (go_keep)
                  (first
                  | (go_at_call 19; refine (KF.out _ (I7.out.go (gb_drew _ _))).mono ?_; rintro e w8 ⟨rfl, g8⟩; have I8 := Lib.hid ((I7.out.go (gb_drew _ none)).go g8); have b8 := old0 (gb_trans (gb_drew _ none) g8) B7.out (blk_lt B7.out) (by simp); have t0 := blk_cell b8 0; have t1 := blk_cell b8 1; have t2 := blk_cell b8 2; simp only [List.getElem?_toArray, List.getElem?_cons_succ, List.getElem?_cons_zero] at t0 t1 t2; clear g8 b8))
                all_goals
                  go_wp2_with fail
                  go_roundg (81 - (k + 1))
                  case measure => omega
                  case rel => exact ⟨k + 1, d, q, g, u, y, by omega, rfl, rfl, by go_num, I8.out⟩
      · have AW := Lib.hid (fun w => awake_calls w)
        have SN := Lib.hid (fun w => snew_nil s w)
        go_wp2_with fail
        refine (SN.out _).mono ?_
        rintro e w' ⟨rfl, rfl⟩
        go_wp2_with fail
        refine (AW.out _).mono ?_
        rintro e w9 ⟨rfl, g9⟩
        have G9 := Lib.hid (gb_trans HI.out.grown g9)
        clear g9
        go_wp2
        go_ret
        exact ⟨rfl, G9.out⟩
    · have AW := Lib.hid (fun w => awake_calls w)
      have SN := Lib.hid (fun w => snew_nil s w)
      go_wp2_with fail
      refine (SN.out _).mono ?_
      rintro e w' ⟨rfl, rfl⟩
      go_wp2_with fail
      refine (AW.out _).mono ?_
      rintro e w9 ⟨rfl, g9⟩
      have G9 := Lib.hid (gb_trans HI.out.grown g9)
      clear g9
      go_wp2
      go_ret
      exact ⟨rfl, G9.out⟩

theorem plays_far (s : ByteArray) (work fmt : Int) (a : Option Addr) (len cap : Nat) (W : World) (hs : 300 < s.size) (hb : s.size ≤ 9223372036854775807) :
    Calls Try.prog 3 #[.string s, .int .i64 work, .slice a len cap, .int .i64 fmt] W fun e w' => e = .returned (.bool true) ∧ W.grownBy w' none := by
  have AW := Lib.hid (fun w => awake_calls w)
  have h1 : (300 : Int) < s.size := by omega
  clear hs
  go_enter Try.func3, Try.ntmps3
  go_wp2_with fail
  refine (AW.out _).mono ?_
  rintro e w9 ⟨rfl, g9⟩
  have G9 := Lib.hid g9
  clear g9
  go_wp2
  go_ret
  exact ⟨rfl, G9.out⟩

theorem plays_any (HO : OneOk) (s : ByteArray) (work fmt : Int) (a : Option Addr) (b off len cap : Nat) (K N M : Nat → Int) (W : World) (ha : 0 < len → a = some ⟨b, off, none⟩) (hs : s.size ≤ 9223372036854775807)
    (hw : work ≤ 9223372036854775807) (hbig : len ≤ 9223372036854775807) (hN : ∀ i, i < len → N i ≤ 9223372036854775807)
    (hc : ∀ i, i < len → W.cell? ⟨b, off + i * 3, none⟩ = some (.int .i64 (K i)) ∧ W.cell? ⟨b, off + i * 3 + 1, none⟩ = some (.int .i64 (N i)) ∧ W.cell? ⟨b, off + i * 3 + 2, none⟩ = some (.int .i64 (M i))) :
    Calls Try.prog 3 #[.string s, .int .i64 work, .slice a len cap, .int .i64 fmt] W
      fun e w' => e = .returned (.bool true) ∧ W.grownBy w' none := by
  by_cases h : s.size ≤ 300
  · exact plays_walk HO s work fmt a b off len cap K N M W ha h hw hbig hN hc
  · exact plays_far s work fmt a len cap W (by omega) hs

end Go.Proofs.Ytdcmbjhjfdjdhaa.Sr
