/- A range over a function whose iterator turns a box of its own: one law, at the wide fence; the rounds are counted. -/
import Derived.RangeFuncNested
import Derived.RangeFuncBound
import Derived.RangeFuncCalls
import Derived.RangeFuncLeaves
import Derived.Shelf.Abstract
import Derived.Shelf.RegionOpen
import Derived.WalkKit
import Derived.OwnWalkIn
import Derived.TacticsInMore
import Derived.LoopNIn
import Derived.LoopIn
import Derived.Test.YteimfjlogjdakaaTnL
namespace Go.Proofs.Yteimfjlogjdakaa.Rf
open Go.ChangeShapes Go.WideShapes Go.ChangeAt Go.RowKit Go.Shelf
open Go.Proofs.Yteimfjlogjdakaa.Le
set_option linter.unusedVariables false

/-- The blocks ks lie as they lay. -/
def Kq (ks : List Nat) (W W' : World) : Prop := ∀ k, k ∈ ks → W'.heap[k]? = W.heap[k]?
theorem Kq.refl (ks : List Nat) (W : World) : Kq ks W W := fun _ _ => rfl
theorem Kq.trans {ks : List Nat} {A B C : World} (h : Kq ks A B) (k : Kq ks B C) : Kq ks A C := fun i hi => (k i hi).trans (h i hi)
/-- How a round's body is left. -/
def jPost (ks : List Nat) (I : Nat → World → Prop) (j : Nat) (W : World) : Exit → Act → World → Prop
  | .normal, _, W' => KeepsOthers W W' ∧ Kq ks W W' ∧ I j W'
  | _, _, _ => False
/-- What the caller's word abides: the iterator's turn of its box B; what is no cells, made since s. -/
def Abid (s B : Nat) (I : Nat → World → Prop) : Prop :=
  ∀ j A A' row, I j A → A.grownBy A' row → (∀ r, row = some r → r = B ∨ (s ≤ r ∧ ∃ o : Obj, A.heap[r]? = some o ∧ o.isCells = false)) → I j A'
theorem Abid.putObj {s B : Nat} {I : Nat → World → Prop} (h : Abid s B I) {j : Nat} {W : World} {l : Nat} {o : Obj} (o' : Obj) (hs : I j W) (hB : s ≤ l) (hl : W.heap[l]? = some o) (ho : o.isCells = false) : I j (W.putObj l o') :=
  h j W _ (some l) hs (grownBy_putObj' W l o') (fun r e => by cases e; exact .inr ⟨hB, o, hl, ho⟩)
theorem Abid.alloc {s B : Nat} {I : Nat → World → Prop} (h : Abid s B I) {j : Nat} {W : World} (o : Obj) (hs : I j W) : I j (W.alloc o) :=
  h j W _ none hs (World.grownBy_alloc W o none) (fun r e => by cases e)
theorem kq_put {ks : List Nat} {W : World} {l : Nat} {o : Obj} (h : l ∉ ks) : Kq ks W (W.putObj l o) := fun k hk => World.putObj_heap_other (fun e => h (e ▸ hk))
theorem kq_alloc {ks : List Nat} {W : World} (o : Obj) (h : ∀ k, k ∈ ks → k < W.heap.size) : Kq ks W (W.alloc o) := fun k hk => Below.heap_alloc W o k (h k hk)

/-- The blocks ks are cells, not of type u. -/
def Rk (ks : List Nat) (u : TypeId) (W : World) : Prop := ∀ k, k ∈ ks → ∃ C t z, W.heap[k]? = some (.cells C t z) ∧ t ≠ u
theorem Rk.put {ks : List Nat} {u : TypeId} {W : World} {l : Nat} (o : Obj) (h : Rk ks u W) (hl : l ∉ ks) : Rk ks u (W.putObj l o) := fun k hk => by
  obtain ⟨C, t, z, h1, h2⟩ := h k hk
  exact ⟨C, t, z, (kq_put hl k hk).trans h1, h2⟩
/-- What an iterator owes: N rounds, of which it hands out encs; it turns its box B alone, and reads the blocks ks. -/
def Seq (P : Program) (n gf : Nat) (lb : Array Value) (encs : Nat → Array Value) (N B : Nat) (ks : List Nat) (u : TypeId) (w : World) : Prop :=
  ∀ (l : Nat) (J : Nat → World → Prop) (W : World), Kq ks w W →
    (∀ j A A' row, J j A → A.grownBy A' row → (∀ r, row = some r → r = B) → J j A') →
    (∀ j W1, J j W1 → Rk ks u W1 → j < N → YieldAt Fence.wide (n - 1) P l (encs j) W1 fun e W' => e = .returned (.bool true) ∧ J (j + 1) W' ∧ Kq ks W1 W') →
    J 0 W → CallsIn Fence.wide n P gf (#[.func (.yield l) #[] #[]] ++ lb) W fun e W' => (∃ v, e = .returned v) ∧ J N W'

theorem range_law {P : Program} {n : Nat} {g : Operand} {ps : Array Tmp} {assign body : Code} {Q : Exit → Act → World → Prop} {a : Act} {w : World}
    {gf : Nat} {lb : Array Value} (hg : a.eval g = .func (.func gf) #[] lb) (eg : ∀ args w, (callFunc gf args).run P w = .ok (.enter gf args) w)
    {encs : Nat → Array Value} {N B : Nat} {ks : List Nat} {u : TypeId} (hks : ∀ k, k ∈ ks → k < w.heap.size) (hBk : B < w.heap.size) (hps : ∀ j, (encs j).size = ps.size)
    (hseq : Seq P (n - 1) gf lb encs N B ks u w)
    (I : Nat → World → Prop) (hI : Abid w.heap.size B I) (h0 : I 0 w) (a₁ : Nat → Act)
    (hassign : ∀ (l j : Nat) (W : World) (K : Act → World → Prop), K (a₁ j) W →
      assign.wpIn (Fence.wide.inRound l) (n - 1 - 1) P (Exit.then K (fun _ _ _ => False)) { tmps := (ps.zip (encs j)).foldl (fun t (p, v) => t.setIfInBounds p v) a.tmps, defers := [] } W)
    (hbody : ∀ (l j : Nat) (W : World), I j W → Rk ks u W → j < N → body.wpIn (Fence.wide.inRound l) (n - 1 - 1) P (jPost ks I (j + 1) W) (a₁ j) W)
    (hdone : ∀ (D : Nat) (W : World), w.heap.size ≤ D → I N W → W.heap[D]? = some (.deferred (some [])) → Q .normal { a with defers := { target := .collected D, args := #[] } :: a.defers } W) :
    (Code.rangeFunc g ps assign body).wpIn Fence.wide n P Q a w := by
  refine wpIn_rangeFunc ?_
  intro fn hfn
  rw [show Fence.wide.round = none from rfl]
  obtain ⟨rec, hrec⟩ : ∃ rec : LoopState → Option Code → Loop, rec = fun st pe => { state := st, pending := pe, fn, tmps := a.tmps, params := ps, assign, body, defers := w.heap.size } := ⟨_, rfl⟩
  obtain ⟨W1, hW1⟩ : ∃ W1, (w.alloc (.deferred (some []))).alloc (.loop (rec .ready none)) = W1 := ⟨_, rfl⟩
  have hL1 : W1.heap[w.heap.size + 1]? = some (.loop (rec .ready none)) := by
    rw [← hW1]; have := World.alloc_heap_new (w.alloc (.deferred (some []))) (.loop (rec .ready none)); rwa [World.size_alloc] at this
  have hK1 : W1.heap[w.heap.size]? = some (.deferred (some [])) := by
    rw [← hW1]; exact (Below.heap_alloc _ _ _ (by simp)).trans (World.alloc_heap_new w _)
  have hI1 : I 0 W1 := by rw [← hW1]; exact hI.alloc _ (hI.alloc _ h0)
  have hb1 : Kq ks w W1 := by
    rw [← hW1]; exact (kq_alloc _ hks).trans (kq_alloc _ (fun k hk => by have := hks k hk; simp; omega))
  have hnk : ∀ l, w.heap.size ≤ l → l ∉ ks := fun l hl hk => by have := hks l hk; omega
  refine ⟨w.heap.size + 1, [{ target := .collected w.heap.size, args := #[] }], W1, { target := .fn (.func gf) lb, args := #[.func (.yield (w.heap.size + 1)) #[] #[]] }, W1, gf,
    #[.func (.yield (w.heap.size + 1)) #[] #[]] ++ lb, W1, ?_, ?_, ?_, ?_, fun h => (by cases h), ?_⟩
  · rw [← hW1, hrec]; exact run_enterLoop_outer _ _ _ _ _
  · simp only [resolve, hg]
    simp [go_sem]
  · intro f' hf'; trivial
  · simp [invoke, go_sem, eg]
  · have hno : ∀ {A A' : World} {row : Option Nat}, A.grownBy A' row → (∀ r, row = some r → r = B) → ∀ {k : Nat} {o : Obj}, w.heap.size ≤ k → A.heap[k]? = some o → A'.heap[k]? = some o :=
      fun {A A' row} hg' hr {k o} hk ho => (hg'.block k (Array.getElem?_eq_some_iff.1 ho).1 (fun e => by have := hr k e.symm; omega)).trans ho
    refine (hseq (w.heap.size + 1)
      (fun j W => I j W ∧ W.heap[w.heap.size + 1]? = some (.loop (rec .ready none)) ∧ W.heap[w.heap.size]? = some (.deferred (some [])))
      W1 hb1
      (fun s A A' row hs hg' hr => ⟨hI s A A' row hs.1 hg' (fun r e => .inl (hr r e)), hno hg' hr (by omega) hs.2.1, hno hg' hr (Nat.le_refl _) hs.2.2⟩)
      ?_ ⟨hI1, hL1, hK1⟩).mono ?_
    · rintro j W ⟨hi, hl, hk⟩ hrk hlen
      have hlt : w.heap.size + 1 < W.heap.size := (Array.getElem?_eq_some_iff.1 hl).1
      have hy := run_yield (P := P) (args := encs j) hl (by rw [hrec]; exact hps j)
      rw [hrec] at hy
      refine ⟨fn, _, assign, body, hy, roundIn_of_wpIn hfn (hassign _ j W _ ⟨_, run_beginRound hl (by rw [hrec]), ?_⟩)⟩
      have hl2 : (W.putObj (w.heap.size + 1) (.loop { rec .ready none with state := .busy })).heap[w.heap.size + 1]? = some (.loop { rec .ready none with state := .busy }) := World.putObj_heap_same hlt
      have hk2 : (W.putObj (w.heap.size + 1) (.loop { rec .ready none with state := .busy })).heap[w.heap.size]? = some (.deferred (some [])) := (World.putObj_heap_other (by omega)).trans hk
      have hw2 : Kq ks W (W.putObj (w.heap.size + 1) (.loop { rec .ready none with state := .busy })) := kq_put (hnk _ (by omega))
      refine wpIn_mono (hbody _ j _ (hI.putObj _ hi (by omega) hl rfl) (hrk.put _ (hnk _ (by omega))) hlen) ?_
      rintro e a3 W3 hp
      cases e with
      | normal =>
        obtain ⟨hk3, hkp3, hi3⟩ := hp
        have hl3 := hk3.same _ _ hl2 rfl
        have hr := run_endRound (P := P) none hl3
        rw [hrec] at hr
        have hl4 : (W3.putObj (w.heap.size + 1) (.loop (rec .ready none))).heap[w.heap.size + 1]? = some (.loop (rec .ready none)) := World.putObj_heap_same (Array.getElem?_eq_some_iff.1 hl3).1
        have hk4 : (W3.putObj (w.heap.size + 1) (.loop (rec .ready none))).heap[w.heap.size]? = some (.deferred (some [])) := (World.putObj_heap_other (by omega)).trans (hk3.same _ _ hk2 rfl)
        have hk5 : Kq ks W (W3.putObj (w.heap.size + 1) (.loop (rec .ready none))) := (hw2.trans hkp3).trans (kq_put (hnk _ (by omega)))
        have hi5 : I (j + 1) (W3.putObj (w.heap.size + 1) (.loop (rec .ready none))) := hI.putObj _ hi3 (by omega) hl3 rfl
        rw [hrec] at hl4 hk4 hk5 hi5
        rw [hrec]
        exact ⟨_, _, hr, rfl, ⟨hi5, hl4, hk4⟩, hk5⟩
      | ret => exact hp.elim
      | exit id => exact hp.elim
      | goto t => exact hp.elim
      | panic ch => exact hp.elim
      | outgrown => exact hp.elim
    · rintro e W2 ⟨⟨v, rfl⟩, hi, hl, hk⟩
      exact ⟨none, _, by have := run_endLoop (P := P) hl (by rw [hrec]; simp); rw [hrec] at this; exact this, hdone _ _ (Nat.le_refl _) (hI.putObj _ hi (by omega) hl rfl) ((World.putObj_heap_other (by omega)).trans hk)⟩

end Go.Proofs.Yteimfjlogjdakaa.Rf
