/- Layer 10: what the ends of PaletteReads' walk want. -/
import Derived.Test.YtljbhahdaepecaaPalQ
namespace Go.Proofs.Ytljbhahdaepecaa.Pa
open Go.ChangeShapes Go.WideShapes Go.ChangeAt Go.RowKit
open Go.Proofs.Ytljbhahdaepecaa.Sc Go.Proofs.Ytljbhahdaepecaa.Le
set_option linter.unusedVariables false

theorem cellsOf_congr {D E : Nat → Nat → Int} : ∀ k, (∀ i, i < k → ∀ j, j < 4 → D i j = E i j) → cellsOf D k = cellsOf E k
  | 0, _ => rfl
  | k + 1, h => by
    show cellsOf D k ++ _ = cellsOf E k ++ _
    rw [cellsOf_congr k (fun i hi => h i (by omega)), h k (by omega) 0 (by decide), h k (by omega) 1 (by decide), h k (by omega) 2 (by decide), h k (by omega) 3 (by decide)]

/-- A row of one's own, entry by entry. -/
theorem own_cells {w : World} {base n c : Nat} {a : Option Addr} {D : Nat → Nat → Int} (h : w.ownsRow base 24 4 (.slice a n c) n (cellsOf D n)) (hn : 0 < n) : ∃ g, a = some ⟨g, 0, none⟩ ∧ ColsAt g 0 n D w := by
  rcases h.2 with ⟨_, h2⟩ | ⟨g, cap, cur, h1, _, hg, hle, _, hsz, htk⟩
  · omega
  · simp at h1
    refine ⟨g, h1.1, fun i hi j hj => ?_⟩
    have h3 := cellsOf_at D n i j hi hj
    have h4 : (cellsOf D n)[i * 4 + j]? = cur.toList[i * 4 + j]? := by
      first
        | (rw [← htk, List.getElem?_take_of_lt (by omega)])
        | (rw [htk, List.getElem?_take_of_lt (by omega)])
    rw [Nat.zero_add, blk_cell hg (i * 4 + j)]
    rw [h4] at h3
    simpa using h3

theorem own_news {w : World} {base n c g : Nat} {xs : List Value} (h : w.ownsRow base 24 4 (.slice (some ⟨g, 0, none⟩) n c) n xs) : ∀ j u, xs[j]? = some u → w.cell? ((⟨g, 0, none⟩ : Addr).add j) = some u := by
  intro j u hu
  rcases h.2 with ⟨h1, _⟩ | ⟨g', cap, cur, h1, _, hg, hle, _, hsz, htk⟩
  · simp at h1
  · simp at h1
    obtain ⟨rfl, rfl⟩ := h1
    rw [add_plain, Nat.zero_add, blk_cell hg j]
    have hj : j < xs.length := (List.getElem?_eq_some_iff.1 hu).1
    rw [h.1] at hj
    rw [← htk, List.getElem?_take_of_lt (by omega)] at hu
    simpa using hu

theorem pof_ent (p b l g n most i : Nat) (S : ByteArray) (D : Nat → Nat → Int) (c0 c1 c2 c3 : Int) (W : World) (h : Po p b l g n most S W) (hi : i < n) (hE : EntOf S n D) (f0 : D i 0 = c0) (f1 : D i 1 = c1) (f2 : D i 2 = c2) (f3 : D i 3 = c3) :
    Calls Try.prog 20 #[.pointer (some ⟨p, 0, none⟩), .int .i64 i] W
      fun e w' => e = .returned (.tuple #[.agg #[.int .u8 c0, .int .u8 c1, .int .u8 c2, .int .u8 c3], .bool true]) ∧ W.grownBy w' none := by
  have := pof_yes p b l g n most i S W h hi
  have e0 := hE i hi 0 (by decide)
  rw [Nat.add_zero] at e0
  rw [e0, hE i hi 1 (by decide), hE i hi 2 (by decide), hE i hi 3 (by decide), f0, f1, f2, f3] at this
  exact this

theorem LB_give (m : Nat) (st : Int) : ((LB ((4 * m : Nat) : Int) st).give ((4 * m : Nat) : Int)).1.ls.by_ = 0 := by
  unfold St.give
  rw [if_neg (by simp only [LB]; omega)]
  show ((4 * m : Nat) : Int) - ((4 * m : Nat) : Int) = 0
  omega

theorem WEnd.free {W : World} {p b l g m n : Nat} {D : Nat → Nat → Int} {base : Nat} {v : Value} {w : World} (h : WEnd W p b l g m n D base v w) (m2 : m ≤ 255) :
    Calls Try.prog 21 #[.pointer (some ⟨p, 0, none⟩)] w
      fun e w' => e = .returned (.bool true) ∧ (w'.heap[p]? = some (.cells (palCells b 0) 82 (0, 0)) ∧ Bu.BShut b l w' ∧ ∃ L : LS, L.by_ = 0 ∧ Led l L w') ∧ Tn w w' [p, b, l] := by
  obtain ⟨S, h1, _⟩ := h.po
  obtain ⟨st, a, c, d⟩ := h.led
  refine (pfree_yes p b l g n m S _ w h1 d (LB_ok (by omega) (by omega) a c)).mono ?_
  rintro e w' ⟨r, ⟨q1, q2, q3⟩, t⟩
  rw [h1.size] at q3
  exact ⟨r, ⟨q1, q2, _, LB_give m st, q3⟩, t⟩

def CodeReads (T sz : Nat) (kd : Int) : Prop :=
  ∀ (p b l g x n most N K : Nat) (S : ByteArray) (s : ByteArray) (m4 st : Int) (D : Nat → Nat → Int) (W : World) (hP : Po p b l g n most S W) (hE : EntOf S n D) (hm1 : 1 ≤ most) (hNm : N ≤ most - n)
    (hS : Sr.So x l s 0 0 s.size W) (hL : Led l (LB m4 st).ls W) (m0 : 0 ≤ m4) (m1 : m4 ≤ 2000) (st0 : 0 ≤ st) (st1 : st + N < 1000) (xp : x ≠ p) (xb : x ≠ b) (xg : x ≠ g) (hs : s.size ≤ 300)
    (hD : ∀ k, k < K → ∀ j, j < 4 → D (n + k) j = entAt T s (k * sz) j) (k1 : K ≤ N) (k2 : K * sz ≤ s.size) (k3 : K = N ∨ s.size < K * sz + sz),
    Calls Try.prog 17 #[.pointer (some ⟨p, 0, none⟩), .pointer (some ⟨x, 0, none⟩), .int .i64 N, .int .i64 kd] W (ReadPost W p b l g x n most N K m4 D)
theorem codeReads_0 : CodeReads 0 2 2 := fun p b l g x n most N K S s m4 st D W => read_0 p b l g x n most N K S s m4 st D W
theorem codeReads_1 : CodeReads 1 3 3 := fun p b l g x n most N K S s m4 st D W => read_1 p b l g x n most N K S s m4 st D W
theorem codeReads_2 : CodeReads 2 4 4 := fun p b l g x n most N K S s m4 st D W => read_2 p b l g x n most N K S s m4 st D W
theorem codeReads_3 : CodeReads 3 4 5 := fun p b l g x n most N K S s m4 st D W => read_3 p b l g x n most N K S s m4 st D W
def DocReads (T sz : Nat) (kd : Int) : Prop :=
  ∀ (s : ByteArray) (N : Nat) (K : Nat) (W : World) (hs : s.size ≤ 300) (hN : N ≤ 1000) (k1 : K ≤ N) (k2 : K * sz ≤ s.size) (k3 : K = N ∨ s.size < K * sz + sz),
    Calls Try.prog 18 #[.string s, .int .i64 N, .int .i64 kd] W (RReadPost W T sz K s)
theorem docReads_0 : DocReads 0 2 2 := fun s N K W => rread_0 s N K W
theorem docReads_1 : DocReads 1 3 3 := fun s N K W => rread_1 s N K W
theorem docReads_2 : DocReads 2 4 4 := fun s N K W => rread_2 s N K W
theorem docReads_3 : DocReads 3 4 5 := fun s N K W => rread_3 s N K W

/-- All entries of the palette that Read leaves. -/
def joined (C : Nat → Nat → Int) (T sz : Nat) (s : ByteArray) (n : Nat) : Nat → Nat → Int := fun i j => if i < n then C i j else entAt T s ((i - n) * sz) j
theorem joined_lt {C : Nat → Nat → Int} {T sz : Nat} {s : ByteArray} {n i : Nat} (h : i < n) (j : Nat) : joined C T sz s n i j = C i j := if_pos h
theorem joined_ge {C : Nat → Nat → Int} {T sz : Nat} {s : ByteArray} {n : Nat} (k j : Nat) : joined C T sz s n (n + k) j = entAt T s (k * sz) j := by
  unfold joined
  rw [if_neg (by omega), Nat.add_sub_cancel_left]
theorem joined_cells (C : Nat → Nat → Int) (T sz : Nat) (s : ByteArray) (n K : Nat) : cellsOf C n ++ cellsOf (fun k => entAt T s (k * sz)) K = cellsOf (joined C T sz s n) (n + K) := by
  rw [← cellsOf_app]
  congr 1
  · exact cellsOf_congr n fun i hi j _ => (joined_lt hi j).symm
  · exact cellsOf_congr K fun i _ j _ => (joined_ge i j).symm

/-- Behind Read, before the row grows. -/
structure WRead (W : World) (p b l g m n K : Nat) (C D : Nat → Nat → Int) (base : Nat) (v : Value) (w : World) : Prop where
  po : ∃ S, Po p b l g (n + K) m S w ∧ EntOf S (n + K) D
  led : ∃ st, (0 : Int) ≤ st ∧ st ≤ 1000 ∧ Led l (LB ((4 * m : Nat) : Int) st).ls w
  own : w.ownsRow base 24 4 v n (cellsOf C n)
  gb : W.grownBy w none
  bs : base ≤ w.heap.size
theorem WRead.grown {W : World} {p b l g m n K : Nat} {C D : Nat → Nat → Int} {base : Nat} {v : Value} {w w' : World} (h : WRead W p b l g m n K C D base v w) (k : w.grownBy w' none) : WRead W p b l g m n K C D base v w' := by
  obtain ⟨S, h1, h2⟩ := h.po
  obtain ⟨st, a, b', c⟩ := h.led
  exact ⟨⟨S, h1.grown k (by simp) (by simp) (by simp), h2⟩, ⟨st, a, b', c.grown k (by simp)⟩, own_grown h.own k, gb_trans h.gb k, Nat.le_trans h.bs k.size⟩
theorem WEnd.read {W : World} {p b l g m n x N K : Nat} {C D : Nat → Nat → Int} {base : Nat} {v : Value} {u w w' : World} {e : Ending} (h : WEnd W p b l g m n C base v w) (hr : ReadPost w p b l g x n m N K ((4 * m : Nat) : Int) D e w')
    (hv : ∀ k, v.ownBlock = some k → k < u.heap.size) (hx : u.heap.size ≤ x) (hWu : W.heap.size ≤ u.heap.size)
    (hp : p < base) (hgg : g < base) (hl : l < base) (hWp : W.heap.size ≤ p) (hWg : W.heap.size ≤ g) (hWl : W.heap.size ≤ l) : e = .returned (.int .i64 (if K = N then 0 else 5)) ∧ WRead W p b l g m n K C D base v w' := by
  obtain ⟨r, S, st, q1, q2, q3, q4, q5, t⟩ := hr
  refine ⟨r, ⟨S, q1, q2⟩, ⟨st, q4, q5, q3⟩, own_turned h.own t (fun k hk => ?_), Tn.own h.gb t (fun y hy => ?_), Nat.le_trans h.bs t.size⟩
  · have h1 := (h.own.lt k hk).1
    have h2 := hv k hk
    simp
    omega
  · simp at hy
    rcases hy with rfl | rfl | rfl | rfl
    · exact .inl hWp
    · exact .inl hWg
    · exact .inl (by omega)
    · exact .inl hWl
theorem WRead.app {W : World} {p b l g m n K T sz : Nat} {C : Nat → Nat → Int} {s : ByteArray} {base : Nat} {v v' : Value} {w w' : World} (h : WRead W p b l g m n K C (joined C T sz s n) base v w)
    (hown : w'.ownsRow base 24 4 v' (n + K) (cellsOf C n ++ cellsOf (fun k => entAt T s (k * sz)) K)) (hg : w.grownBy w' v.ownBlock) (hp : p < base) (hb : b < base) (hgg : g < base) (hl : l < base) (hW : W.heap.size ≤ base) :
    WEnd W p b l g m (n + K) (joined C T sz s n) base v' w' := by
  obtain ⟨S, h1, h2⟩ := h.po
  obtain ⟨st, a, b', c⟩ := h.led
  have ne : ∀ y, y < base → some y ≠ v.ownBlock := fun y hy h' => by
    have := (h.own.lt y h'.symm).1
    omega
  exact ⟨⟨S, h1.grown hg (ne p hp) (ne b hb) (ne g hgg), h2⟩, ⟨st, a, b', c.grown hg (ne l hl)⟩, by rw [← joined_cells]; exact hown, gb_row h.gb hg (fun y hy => by have := (h.own.lt y hy).1; omega), Nat.le_trans h.bs hg.size⟩

end Go.Proofs.Ytljbhahdaepecaa.Pa
