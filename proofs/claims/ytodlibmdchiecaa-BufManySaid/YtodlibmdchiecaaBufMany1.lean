/- Many buffers of one ledger: what holds while they are made, and while they are freed. -/
import Derived.Test.YtodlibmdchiecaaBuf7
import Derived.Laws.AppendOwn
namespace Go.Proofs.Ytodlibmdchiecaa.Bu
open Go.ChangeShapes Go.WideShapes Go.ChangeAt Go.RowKit
open Go.Proofs.Ytodlibmdchiecaa.Le
set_option linter.unusedVariables false

/-- The bytes of the first k that aren't freed. -/
def left (Z : Nat → Nat) (D : Nat → Bool) : Nat → Nat
  | 0 => 0
  | k + 1 => left Z D k + if D k then 0 else Z k
def upd (D : Nat → Bool) (i : Nat) : Nat → Bool := fun j => if j = i then true else D j
def noneOf : Nat → Bool := fun _ => false
theorem left_le (Z : Nat → Nat) (D : Nat → Bool) : ∀ k, (∀ j, j < k → Z j ≤ 255) → left Z D k ≤ 255 * k
  | 0, _ => Nat.le_refl _
  | k + 1, h => by
    have h1 := left_le Z D k (fun j hj => h j (by omega))
    have h2 := h k (by omega)
    simp only [left]
    split <;> omega
theorem left_out (Z : Nat → Nat) (D : Nat → Bool) (i : Nat) : ∀ k, k ≤ i → left Z (upd D i) k = left Z D k
  | 0, _ => rfl
  | k + 1, h => by
    simp only [left, left_out Z D i k (by omega), upd, if_neg (show ¬ k = i by omega)]
theorem left_upd (Z : Nat → Nat) (D : Nat → Bool) (i : Nat) (hd : D i = false) : ∀ k, i < k → left Z (upd D i) k + Z i = left Z D k
  | 0, h => by omega
  | k + 1, h => by
    by_cases hk : i = k
    · subst hk
      simp [left, left_out Z D i i (Nat.le_refl _), upd, hd]
    · have := left_upd Z D i hd k (by omega)
      simp only [left, upd, if_neg (show ¬ k = i from fun e => hk e.symm)] at this ⊢
      omega
theorem upd_same (D : Nat → Bool) (i : Nat) (h : D i = true) : upd D i = D := by
  funext j
  unfold upd
  split
  · rename_i e; rw [e, h]
  · rfl

theorem by_type {w : World} {x y : Nat} {c d : Array Value} {t u : TypeId} {f h : Nat × Nat} (hx : w.heap[x]? = some (.cells c t f)) (hy : w.heap[y]? = some (.cells d u h)) (hn : t ≠ u) : x ≠ y := by
  intro e
  rw [e, hy] at hx
  simp at hx
  exact hn hx.2.1.symm
theorem own_ne {w : World} {base : Nat} {e : TypeId} {v : Value} {n : Nat} {xs : List Value} (h : w.ownsRow base e 1 v n xs) {x : Nat} {c : Array Value} {t : TypeId} {f : Nat × Nat} (hx : w.heap[x]? = some (.cells c t f)) (hn : t ≠ e) : some x ≠ v.ownBlock := by
  intro e1
  rcases h.2 with ⟨rfl, _⟩ | ⟨g, cap, cur, rfl, _, hg, _⟩
  · simp [Value.ownBlock] at e1
  · simp [Value.ownBlock] at e1
    exact by_type hx hg hn e1
theorem Keeps.blk {l : Nat} {m n : Int} {w : World} (h : Keeps l m n w) : ∃ C, w.heap[l]? = some (.cells C 66 (0, 0)) := by
  obtain ⟨pk, _, _, _, _, h⟩ := h
  exact ⟨_, h⟩

def ptrs (B : Nat → Nat) (k : Nat) : List Value := (List.range k).map fun j => .pointer (some ⟨B j, 0, none⟩)
theorem ptrs_len (B : Nat → Nat) (k : Nat) : (ptrs B k).length = k := by simp [ptrs]
theorem ptrs_snoc (B B' : Nat → Nat) (k b : Nat) (h : ∀ j, j < k → B' j = B j) (hb : B' k = b) : ptrs B' (k + 1) = ptrs B k ++ [.pointer (some ⟨b, 0, none⟩)] := by
  unfold ptrs
  rw [List.range_succ, List.map_append, List.map_singleton, hb]
  congr 1
  exact List.map_congr_left fun j hj => by rw [h j (List.mem_range.1 hj)]
theorem ptrs_at (B : Nat → Nat) (k j : Nat) (h : j < k) : (ptrs B k)[j]? = some (.pointer (some ⟨B j, 0, none⟩)) := by simp [ptrs, h]

/-- While they are made: the first k are open. -/
structure M1 (W : World) (l : Nat) (Z : Nat → Nat) (k : Nat) (av : Value) (K : Int) (B G : Nat → Nat) (wr : World) : Prop where
  op : ∀ j, j < k → BOpen (B j) l (G j) (rep 0 (Z j)) wr
  inj : ∀ i j, i < k → j < k → B i = B j → i = j
  bb : ∀ j, j < k → W.heap.size ≤ B j
  row : wr.ownsRow W.heap.size 27 1 av k (ptrs B k)
  keep : Keeps l 10000 K wr
  kz : K = (left Z noneOf k : Nat)
  grown : W.grownBy wr none

theorem M1.made {W : World} {l k : Nat} {Z : Nat → Nat} {av : Value} {K : Int} {B G : Nat → Nat} {wr w2 : World} {b g : Nat} (I : M1 W l Z k av K B G wr) (hl : W.heap.size ≤ l)
    (KK : Keeps l 10000 (K + Z k) w2) (gr : wr.grownBy w2 (some l)) :
    (∀ j, j < k → BOpen (B j) l (G j) (rep 0 (Z j)) w2) ∧ w2.ownsRow W.heap.size 27 1 av k (ptrs B k) ∧ W.grownBy w2 none := by
  refine ⟨fun j hj => (I.op j hj).grown gr (by have := (I.op j hj).bl; simpa using this) (by have := (I.op j hj).gl; simpa using this), I.row.kept gr ?_, gb_own I.grown hl gr⟩
  obtain ⟨C, hC⟩ := I.keep.blk
  exact .inr (fun e => own_ne I.row hC (by decide) e.symm)

theorem M1.step {W : World} {l k : Nat} {Z : Nat → Nat} {av v' : Value} {K : Int} {B G : Nat → Nat} {wr w2 w3 : World} {b g : Nat} {o : Obj} (I : M1 W l Z k av K B G wr) (hl : W.heap.size ≤ l)
    (BO : BOpen b l g (rep 0 (Z k)) w2) (KK : Keeps l 10000 (K + Z k) w2) (gr : wr.grownBy w2 (some l)) (hb : wr.heap.size ≤ b)
    (row' : w3.ownsRow W.heap.size 27 1 v' (k + 1) (ptrs B k ++ [.pointer (some ⟨b, 0, none⟩)])) (g3 : (w2.alloc o).grownBy w3 av.ownBlock) :
    ∃ B' G', M1 W l Z (k + 1) v' (K + Z k) B' G' w3 := by
  obtain ⟨op2, row2, gr2⟩ := I.made (b := b) (g := g) hl KK gr
  have hWr := I.grown.size
  have row2a := row2.alloc o
  have go : ∀ {x y : Nat} {s : ByteArray}, BOpen x l y s w2 → BOpen x l y s w3 := fun {x y s} h => by
    have h1 : BOpen x l y s (w2.alloc o) := h.grown (World.grownBy_alloc w2 o none) (by simp) (by simp)
    exact h1.grown g3 (own_ne row2a h1.blk (by decide)) (own_ne row2a h1.byt (by decide))
  have hlt : ∀ j, j < k → B j < wr.heap.size := fun j hj => (I.op j hj).lt
  refine ⟨fun j => if j = k then b else B j, fun j => if j = k then g else G j, ?_, ?_, ?_, ?_, ?_, ?_, ?_⟩
  · intro j hj
    by_cases e : j = k
    · subst e; simpa using go BO
    · simp only [e, if_false]; exact go (op2 j (by omega))
  · intro i j hi hj e
    by_cases e1 : i = k <;> by_cases e2 : j = k
    · omega
    · simp only [e1, e2, if_true, if_false] at e
      have := hlt j (by omega)
      omega
    · simp only [e1, e2, if_true, if_false] at e
      have := hlt i (by omega)
      omega
    · simp only [e1, e2, if_false] at e
      exact I.inj i j (by omega) (by omega) e
  · intro j hj
    by_cases e : j = k
    · simp only [e, if_true]; omega
    · simp only [e, if_false]; exact I.bb j (by omega)
  · rw [ptrs_snoc B _ k b (fun j hj => by simp only [if_neg (show ¬ j = k by omega)]) (by simp)]
    exact row'
  · obtain ⟨C, hC⟩ := KK.blk
    exact (KK.grown (World.grownBy_alloc w2 o none) (by simp)).grown g3 (own_ne row2a (blk_al hC o) (by decide))
  · rw [I.kz]
    simp [left, noneOf]
  · have h1 := gb_trans gr2 (World.grownBy_alloc w2 o none)
    cases hv : av.ownBlock with
    | none => rw [hv] at g3; exact gb_trans h1 g3
    | some r => rw [hv] at g3; exact gb_own h1 (row2.lt r hv).1 g3

/-- While they are freed: D says which are, E which are marked. -/
def bools (D : Nat → Bool) (n : Nat) : Array Value := ((List.range n).map fun j => Value.bool (D j)).toArray
theorem bools_at (D : Nat → Bool) (n j : Nat) (h : j < n) : (bools D n)[j]? = some (.bool (D j)) := by simp [bools, h]
theorem bools_set (D : Nat → Bool) (n i : Nat) : (bools D n).setIfInBounds i (.bool true) = bools (upd D i) n := by
  apply Array.ext
  · simp [bools]
  · intro j h1 h2
    simp [bools, upd]
    by_cases e : i = j
    · simp [e]
    · simp [e, show ¬ j = i from fun x => e x.symm]
structure M2 (W : World) (l q r : Nat) (cur : Array Value) (Z : Nat → Nat) (n : Nat) (B G : Nat → Nat) (D E : Nat → Bool) (K : Int) (wr : World) : Prop where
  op : ∀ j, j < n → D j = false → BOpen (B j) l (G j) (rep 0 (Z j)) wr
  sh : ∀ j, j < n → D j = true → BShut (B j) l wr
  row : 0 < n → wr.heap[r]? = some (.cells cur 27 (0, 0))
  gone : wr.heap[q]? = some (.cells (bools E n) 4 (0, 0))
  keep : Keeps l 10000 K wr
  kz : K = (left Z D n : Nat)
  grown : W.grownBy wr none

theorem row_open {w : World} {base : Nat} {v : Value} {n : Nat} {B : Nat → Nat} (h : w.ownsRow base 27 1 v n (ptrs B n)) :
    ∃ ao cap r cur, v = .slice ao n cap ∧ (0 < n → ao = some ⟨r, 0, none⟩) ∧ (0 < n → w.heap[r]? = some (.cells cur 27 (0, 0))) ∧ ∀ j, j < n → cur[j]? = some (.pointer (some ⟨B j, 0, none⟩)) := by
  rcases h.2 with ⟨rfl, rfl⟩ | ⟨g, cap, cur, rfl, _, hg, _, _, _, ht⟩
  · exact ⟨none, 0, 0, #[], rfl, fun h => by omega, fun h => by omega, fun j hj => by omega⟩
  · refine ⟨_, cap, g, cur, rfl, fun _ => rfl, fun _ => hg, fun j hj => ?_⟩
    have h1 := ptrs_at B n j hj
    rw [← ht, List.getElem?_take_of_lt (by omega)] at h1
    simpa using h1
theorem M1.done {W : World} {l n r : Nat} {Z : Nat → Nat} {av : Value} {K : Int} {B G : Nat → Nat} {wr : World} {cur : Array Value} (I : M1 W l Z n av K B G wr)
    (hrow : 0 < n → wr.heap[r]? = some (.cells cur 27 (0, 0))) : M2 W l wr.heap.size r cur Z n B G noneOf noneOf K (wr.alloc (.cells (bools noneOf n) 4)) :=
  ⟨fun j hj _ => (I.op j hj).grown (World.grownBy_alloc _ _ none) (by simp) (by simp), fun j hj hd => by simp [noneOf] at hd, fun h => blk_al (hrow h) _, blk_at, I.keep.grown (World.grownBy_alloc _ _ none) (by simp), I.kz,
    gb_trans I.grown (World.grownBy_alloc _ _ none)⟩

section
variable {W : World} {l q r : Nat} {cur : Array Value} {Z : Nat → Nat} {n : Nat} {B G : Nat → Nat} {D E : Nat → Bool} {K : Int} {wr w' : World}
theorem M2.go (I : M2 W l q r cur Z n B G D E K wr) (g : wr.grownBy w' none) : M2 W l q r cur Z n B G D E K w' :=
  ⟨fun j hj hd => (I.op j hj hd).grown g (by simp) (by simp), fun j hj hd => (I.sh j hj hd).grown g (by simp), fun h => (g.block r (blk_lt (I.row h)) (by simp)).trans (I.row h),
    (g.block q (blk_lt I.gone) (by simp)).trans I.gone, I.keep.grown g (by simp), I.kz, gb_trans I.grown g⟩
theorem M2.drewN (I : M2 W l q r cur Z n B G D E K wr) (m : Nat) : M2 W l q r cur Z n B G D E K (wr.drewN m) := I.go (gb_drewN wr m none)
theorem M2.mark (I : M2 W l q r cur Z n B G D E K wr) (hq : W.heap.size ≤ q) (i : Nat) : M2 W l q r cur Z n B G D (upd E i) K (wr.setCell ⟨q, i, none⟩ (.bool true)) := by
  have g := gb_set wr q i (.bool true)
  refine ⟨fun j hj hd => ?_, fun j hj hd => ?_, fun h => (g.block r (blk_lt (I.row h)) ?_).trans (I.row h), by rw [blk_set I.gone i, bools_set], I.keep.grown g ?_, I.kz, gb_own I.grown hq g⟩
  · have h := I.op j hj hd
    exact h.grown g (by have := by_type h.blk I.gone (by decide); simpa using this) (by have := by_type h.byt I.gone (by decide); simpa using this)
  · have h := I.sh j hj hd
    exact h.grown g (by have := by_type h.blk I.gone (by decide); simpa using this)
  · have := by_type (I.row h) I.gone (by decide); simpa using this
  · obtain ⟨C, hC⟩ := I.keep.blk
    have := by_type hC I.gone (by decide); simpa using this

theorem m_free (I : M2 W l q r cur Z n B G D E K wr) (inj : ∀ i j, i < n → j < n → B i = B j → i = j) (bb : ∀ j, j < n → W.heap.size ≤ B j) (hl : W.heap.size ≤ l) (i : Nat) (hi : i < n) (hd : D i = false) :
    Calls Try.prog 15 #[.pointer (some ⟨B i, 0, none⟩)] wr fun e w' => e = .returned (.bool true) ∧ M2 W l q r cur Z n B G (upd D i) E (K - Z i) w' := by
  have hs := left_upd Z D i hd n hi
  have hz := I.kz
  have hf := free_k (B i) l (G i) (rep 0 (Z i)) 10000 K wr (I.op i hi hd) I.keep (by rw [rep_size]; omega)
  rw [rep_size] at hf
  refine hf.mono ?_
  rintro e w' ⟨he, ⟨S, KK⟩, T⟩
  have nl : ∀ {x : Nat} {c : Array Value} {t : TypeId} {f : Nat × Nat}, wr.heap[x]? = some (.cells c t f) → t ≠ 66 → x ≠ l := fun h ht => by
    obtain ⟨C, hC⟩ := I.keep.blk
    exact by_type h hC ht
  have nb : ∀ {x : Nat} {c : Array Value} {t : TypeId} {f : Nat × Nat}, wr.heap[x]? = some (.cells c t f) → t ≠ 69 → x ≠ B i := fun h ht => by_type h (I.op i hi hd).blk ht
  refine ⟨he, fun j hj hdj => ?_, fun j hj hdj => ?_, fun h => (T.block r (blk_lt (I.row h)) ?_).trans (I.row h), (T.block q (blk_lt I.gone) ?_).trans I.gone, KK, by omega, T.own I.grown ?_⟩
  · have hji : j ≠ i := by rintro rfl; simp [upd] at hdj
    have hd' : D j = false := by simpa [upd, hji] using hdj
    have h := I.op j hj hd'
    refine h.turned T ?_ ?_
    · simp only [List.mem_cons, List.not_mem_nil, or_false, not_or]
      exact ⟨fun e => hji (inj j i hj hi e), h.bl⟩
    · simp only [List.mem_cons, List.not_mem_nil, or_false, not_or]
      exact ⟨nb h.byt (by decide), h.gl⟩
  · by_cases hji : j = i
    · subst hji; exact S
    · have hd' : D j = true := by simpa [upd, hji] using hdj
      have h := I.sh j hj hd'
      refine h.turned T ?_
      simp only [List.mem_cons, List.not_mem_nil, or_false, not_or]
      exact ⟨fun e => hji (inj j i hj hi e), h.bl⟩
  · simp only [List.mem_cons, List.not_mem_nil, or_false, not_or]
    exact ⟨nb (I.row h) (by decide), nl (I.row h) (by decide)⟩
  · simp only [List.mem_cons, List.not_mem_nil, or_false, not_or]
    exact ⟨nb I.gone (by decide), nl I.gone (by decide)⟩
  · intro x hx
    simp only [List.mem_cons, List.not_mem_nil, or_false] at hx
    rcases hx with rfl | rfl
    · exact .inl (bb i hi)
    · exact .inl hl

theorem m_again (I : M2 W l q r cur Z n B G D E K wr) (i : Nat) (hi : i < n) (hd : D i = true) :
    Calls Try.prog 15 #[.pointer (some ⟨B i, 0, none⟩)] wr fun e w' => e = .returned (.bool false) ∧ M2 W l q r cur Z n B G D E K w' :=
  (free_no (B i) l wr (I.sh i hi hd)).mono fun _ _ ⟨he, g⟩ => ⟨he, I.go g⟩
theorem m_bytes (I : M2 W l q r cur Z n B G D E K wr) :
    Calls Try.prog 12 #[.pointer (some ⟨l, 0, none⟩)] wr fun e w' => e = .returned (.int .i64 K) ∧ wr = w' := bytes_k l 10000 K wr I.keep
end

end Go.Proofs.Ytodlibmdchiecaa.Bu
