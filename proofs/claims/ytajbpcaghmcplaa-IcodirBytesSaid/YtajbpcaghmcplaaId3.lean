/- Layer 24: a source by its steps; which entries are right, which is the best (written by wip/gen/id3.py). -/
import Derived.Test.YtajbpcaghmcplaaId2
namespace Go.Proofs.Ytajbpcaghmcplaa.Id
open Go.ChangeShapes Go.WideShapes Go.ChangeAt Go.RowKit
open Go.Proofs.Ytajbpcaghmcplaa.Le Go.Proofs.Ytajbpcaghmcplaa.Sr Go.Proofs.Ytajbpcaghmcplaa.Dh
set_option linter.unusedVariables false

/-- A source over a text, at q, with its ledger's state. -/
structure Sl (b l : Nat) (T : ByteArray) (q f t : Nat) (x : St) (w : World) : Prop where
  so : So b l T q f t w
  led : Led l x.ls w
  ok : x.Ok
theorem Sl.turned {b l : Nat} {T : ByteArray} {q f t : Nat} {x : St} {w w' : World} {S : List Nat} (h : Sl b l T q f t x w) (k : Tn w w' S) (h1 : b ∉ S) (h2 : l ∉ S) : Sl b l T q f t x w' := ⟨h.so.turned k h1, h.led.turned k h2, h.ok⟩
theorem Sl.grown {b l : Nat} {T : ByteArray} {q f t : Nat} {x : St} {w w' : World} (h : Sl b l T q f t x w) (k : w.grownBy w' none) : Sl b l T q f t x w' := ⟨h.so.grown k (by simp), h.led.grown k (by simp), h.ok⟩
theorem Sl.st {b l : Nat} {T : ByteArray} {q f t : Nat} {x : St} {w : World} {k i : Nat} {v : Value} (h : Sl b l T q f t x w) (h1 : b ≠ k) (h2 : l ≠ k) : Sl b l T q f t x (w.setCell ⟨k, i, none⟩ v) := ⟨⟨blk_other h.so.blk h1, h.so.bl, h.so.fp, h.so.pt, h.so.ts, h.so.big⟩, h.led.oth h2, h.ok⟩
theorem Sl.dr {b l : Nat} {T : ByteArray} {q f t : Nat} {x : St} {w : World} (h : Sl b l T q f t x w) : Sl b l T q f t x w.drew := h.grown (gb_drew _ none)
theorem spent_ok {x : St} (ok : x.Ok) : (spent x).Ok := by
  obtain ⟨_, _, _, _, _, _, _, _, _, _, _, _⟩ := ok
  constructor <;> simp only [spent] <;> omega

theorem Sl.take {b l : Nat} {T : ByteArray} {q f t : Nat} {x : St} {w : World} (h : Sl b l T q f t x w) (hr : x.r = 0) (hst : x.st + 1 ≤ x.s) (n : Nat) (hq : q + n ≤ t) :
    Calls Try.prog 19 #[.pointer (some ⟨b, 0, none⟩), .int .i64 (n : Nat)] w fun e w' => e = .returned (.tuple #[.string (T.extract q (q + n)), .bool true]) ∧ Sl b l T (q + n) f t (stp x 1) w' ∧ Tn w w' [b, l] := by
  have e := work_one hr hst
  have K := take_yes b l T q f t n x w h.so h.led h.ok (by unfold rdB canB; rw [e]; simp only [Bool.true_and, Bool.and_eq_true, decide_eq_true_eq]; omega)
  rw [e] at K
  exact K.mono (fun e w' ⟨h1, h2, h3⟩ => ⟨h1, ⟨h2.1, h2.2, stp_ok h.ok 1 hst⟩, h3⟩)

theorem Sl.short {b l : Nat} {T : ByteArray} {q f t : Nat} {x : St} {w : World} (h : Sl b l T q f t x w) (hr : x.r = 0) (hst : x.st + 1 ≤ x.s) (n : Nat) (hq : t < q + n) :
    Calls Try.prog 19 #[.pointer (some ⟨b, 0, none⟩), .int .i64 (n : Nat)] w fun e w' => e = .returned (.tuple #[.string ⟨#[]⟩, .bool false]) ∧ Sl b l T q f t (stp x 1) w' ∧ Tn w w' [b, l] := by
  have e := work_one hr hst
  have K := take_no b l T q f t x (n : Int) w h.so h.led h.ok (by unfold rdB canB; rw [e]; simp only [Bool.true_and, Bool.and_eq_false_iff, decide_eq_false_iff_not]; omega)
  rw [e] at K
  exact K.mono (fun e w' ⟨h1, h2, h3⟩ => ⟨h1, ⟨h2.1, h2.2, stp_ok h.ok 1 hst⟩, Tn.gb h3 (by simp)⟩)

theorem Sl.over {b l : Nat} {T : ByteArray} {q f t : Nat} {x : St} {w : World} (h : Sl b l T q f t x w) (hr : x.r = 0) (hst : x.s < x.st + 1) (n : Nat) :
    Calls Try.prog 19 #[.pointer (some ⟨b, 0, none⟩), .int .i64 (n : Nat)] w fun e w' => e = .returned (.tuple #[.string ⟨#[]⟩, .bool false]) ∧ Sl b l T q f t (spent x) w' ∧ Tn w w' [b, l] := by
  have e := work_none h.ok hr hst
  have K := take_no b l T q f t x (n : Int) w h.so h.led h.ok (by unfold rdB; rw [e]; rfl)
  rw [e] at K
  exact K.mono (fun e w' ⟨h1, h2, h3⟩ => ⟨h1, ⟨h2.1, h2.2, spent_ok h.ok⟩, Tn.gb h3 (by simp)⟩)

theorem Sl.fault1 {b l : Nat} {T : ByteArray} {q f t : Nat} {x : St} {w : World} (h : Sl b l T q f t x w) (hr : x.r = 0) (k : Int) :
    Calls Try.prog 20 #[.pointer (some ⟨b, 0, none⟩), .int .i64 k] w fun e w' => e = .returned (.agg #[.int .i64 1, .int .i64 k, .int .i64 (t : Nat)]) ∧ w.grownBy w' none := by
  have K := fault_calls b l T q f t x k w h.so h.led
  rwa [if_pos hr] at K
theorem Sl.fault4 {b l : Nat} {T : ByteArray} {q f t : Nat} {x : St} {w : World} (h : Sl b l T q f t (spent x) w) (k : Int) :
    Calls Try.prog 20 #[.pointer (some ⟨b, 0, none⟩), .int .i64 k] w fun e w' => e = .returned (.agg #[.int .i64 4, .int .i64 k, .int .i64 (q : Nat)]) ∧ w.grownBy w' none := by
  have K := fault_calls b l T q f t (spent x) k w h.so h.led
  rwa [if_neg (by show ¬ (3 : Int) = 0; decide)] at K

/-- Where entry number i stands; is it right? -/
def qE (p i : Nat) : Nat := p + 6 + 16 * i
def okE (T : ByteArray) (p c i : Nat) : Prop := qE p i + 16 ≤ T.size ∧ 6 + 16 * c ≤ eP T (qE p i) ∧ p + eP T (qE p i) + eS T (qE p i) ≤ T.size
/-- The first K entries are right, and the next one, if there is one, is wrong. -/
structure FK (T : ByteArray) (p c K : Nat) : Prop where
  le : K ≤ c
  yes : ∀ j, j < K → okE T p c j
  no : K < c → ¬ okE T p c K
theorem fk_ex (T : ByteArray) (p c : Nat) : ∃ K, FK T p c K := by
  have : ∀ n, n ≤ c → (∀ j, j < c - n → okE T p c j) → ∃ K, FK T p c K := by
    intro n
    induction n with
    | zero => intro _ h; exact ⟨c, Nat.le_refl _, h, fun h => absurd h (Nat.lt_irrefl _)⟩
    | succ n ih =>
      intro hn h
      by_cases hk : okE T p c (c - (n + 1))
      · exact ih (by omega) (fun j hj => by
          by_cases e : j = c - (n + 1)
          · rw [e]; exact hk
          · exact h j (by omega))
      · exact ⟨c - (n + 1), by omega, h, fun _ => hk⟩
  exact this c (Nat.le_refl _) (fun j hj => absurd hj (by omega))

def arE (T : ByteArray) (q : Nat) : Nat := eW T q * eH T q
theorem ar_bd (T : ByteArray) (q : Nat) : 1 ≤ arE T q ∧ arE T q ≤ 65536 := by
  have h1 := eW_bd T q
  have h2 := eH_bd T q
  unfold arE
  constructor
  · exact Nat.mul_pos h1.1 h2.1
  · exact Nat.mul_le_mul h1.2 h2.2
/-- The number of the best one of the first i entries. -/
def bst (T : ByteArray) (p : Nat) (cu : Bool) : Nat → Nat
  | 0 => 0
  | i + 1 => if i = 0 ∨ btB cu (arE T (qE p i) : Nat) (eB T (qE p i) : Nat) (arE T (qE p (bst T p cu i)) : Nat) (eB T (qE p (bst T p cu i)) : Nat) = true then i else bst T p cu i
theorem bst_lt (T : ByteArray) (p : Nat) (cu : Bool) : ∀ i, 0 < i → bst T p cu i < i
  | 0, h => absurd h (by omega)
  | i + 1, _ => by
    unfold bst
    split
    · omega
    · next h =>
      have : i ≠ 0 := fun e => h (.inl e)
      have := bst_lt T p cu i (by omega)
      omega
/-- Its numbers, the place counted from p. -/
def cW (T : ByteArray) (p : Nat) (cu : Bool) (i : Nat) : Nat := if i = 0 then 0 else eW T (qE p (bst T p cu i))
def cH (T : ByteArray) (p : Nat) (cu : Bool) (i : Nat) : Nat := if i = 0 then 0 else eH T (qE p (bst T p cu i))
def cA (T : ByteArray) (p : Nat) (cu : Bool) (i : Nat) : Nat := if i = 0 then 0 else eA T (qE p (bst T p cu i))
def cB (T : ByteArray) (p : Nat) (cu : Bool) (i : Nat) : Nat := if i = 0 then 0 else eB T (qE p (bst T p cu i))
def cS (T : ByteArray) (p : Nat) (cu : Bool) (i : Nat) : Nat := if i = 0 then 0 else eS T (qE p (bst T p cu i))
def cP (T : ByteArray) (p : Nat) (cu : Bool) (i : Nat) : Nat := if i = 0 then 0 else p + eP T (qE p (bst T p cu i))
theorem cur_yes (T : ByteArray) (p : Nat) (cu : Bool) (i : Nat) (h : btB cu (arE T (qE p i) : Nat) (eB T (qE p i) : Nat) ((cW T p cu i * cH T p cu i : Nat)) (cB T p cu i : Nat) = true) :
    bst T p cu (i + 1) = i ∧ cW T p cu (i + 1) = eW T (qE p i) ∧ cH T p cu (i + 1) = eH T (qE p i) ∧ cA T p cu (i + 1) = eA T (qE p i) ∧ cB T p cu (i + 1) = eB T (qE p i) ∧ cS T p cu (i + 1) = eS T (qE p i) ∧ cP T p cu (i + 1) = p + eP T (qE p i) := by
  have e : bst T p cu (i + 1) = i := by
    by_cases h0 : i = 0
    · subst h0
      simp [bst]
    · unfold bst
      rw [if_pos (.inr (by unfold cW cH cB at h; rwa [if_neg h0, if_neg h0, if_neg h0] at h))]
  refine ⟨e, ?_, ?_, ?_, ?_, ?_, ?_⟩
  · unfold cW; rw [if_neg (by omega), e]
  · unfold cH; rw [if_neg (by omega), e]
  · unfold cA; rw [if_neg (by omega), e]
  · unfold cB; rw [if_neg (by omega), e]
  · unfold cS; rw [if_neg (by omega), e]
  · unfold cP; rw [if_neg (by omega), e]
theorem bt_first (T : ByteArray) (p : Nat) (cu : Bool) : btB cu (arE T (qE p 0) : Nat) (eB T (qE p 0) : Nat) ((cW T p cu 0 * cH T p cu 0 : Nat)) (cB T p cu 0 : Nat) = true := by
  have := ar_bd T (qE p 0)
  unfold btB cW cH
  rw [if_pos rfl, if_pos rfl, if_pos (by simp; omega)]
  simp; omega
theorem cur_no (T : ByteArray) (p : Nat) (cu : Bool) (i : Nat) (h : btB cu (arE T (qE p i) : Nat) (eB T (qE p i) : Nat) ((cW T p cu i * cH T p cu i : Nat)) (cB T p cu i : Nat) = false) :
    i ≠ 0 ∧ bst T p cu (i + 1) = bst T p cu i ∧ cW T p cu (i + 1) = cW T p cu i ∧ cH T p cu (i + 1) = cH T p cu i ∧ cA T p cu (i + 1) = cA T p cu i ∧ cB T p cu (i + 1) = cB T p cu i ∧ cS T p cu (i + 1) = cS T p cu i ∧ cP T p cu (i + 1) = cP T p cu i := by
  have h0 : i ≠ 0 := by
    rintro rfl
    rw [bt_first] at h
    cases h
  have e : bst T p cu (i + 1) = bst T p cu i := by
    have h2 := h
    unfold cW cH cB at h2
    rw [if_neg h0, if_neg h0, if_neg h0] at h2
    show (if _ then _ else _) = _
    rw [if_neg (by rintro (h3 | h3); exact h0 h3; rw [show arE T (qE p (bst T p cu i)) = eW T (qE p (bst T p cu i)) * eH T (qE p (bst T p cu i)) from rfl, h2] at h3; cases h3)]
  refine ⟨h0, e, ?_, ?_, ?_, ?_, ?_, ?_⟩
  · unfold cW; rw [if_neg (by omega), if_neg h0, e]
  · unfold cH; rw [if_neg (by omega), if_neg h0, e]
  · unfold cA; rw [if_neg (by omega), if_neg h0, e]
  · unfold cB; rw [if_neg (by omega), if_neg h0, e]
  · unfold cS; rw [if_neg (by omega), if_neg h0, e]
  · unfold cP; rw [if_neg (by omega), if_neg h0, e]
theorem cur_bd (T : ByteArray) (p : Nat) (cu : Bool) (i : Nat) : cW T p cu i ≤ 256 ∧ cH T p cu i ≤ 256 ∧ cW T p cu i * cH T p cu i ≤ 65536 := by
  have h1 : cW T p cu i ≤ 256 := by unfold cW; split; omega; exact (eW_bd _ _).2
  have h2 : cH T p cu i ≤ 256 := by unfold cH; split; omega; exact (eH_bd _ _).2
  exact ⟨h1, h2, Nat.mul_le_mul h1 h2⟩

/-- A directory's value. -/
def dB (cu : Bool) (c r w h a b s p : Nat) : Array Value := #[.bool cu, .int .i64 (c : Nat), .int .i64 (r : Nat), .int .i64 (w : Nat), .int .i64 (h : Nat), .int .i64 (a : Nat), .int .i64 (b : Nat), .int .i64 (s : Nat), .int .i64 (p : Nat)]
def Z9 : Array Value := #[.bool false, .int .i64 0, .int .i64 0, .int .i64 0, .int .i64 0, .int .i64 0, .int .i64 0, .int .i64 0, .int .i64 0]
def dirV (T : ByteArray) (p : Nat) (cu : Bool) (c : Nat) : Array Value := dB cu c (bst T p cu c) (cW T p cu c) (cH T p cu c) (cA T p cu c) (cB T p cu c) (cS T p cu c) (cP T p cu c)

/-- How Read ends: as it would with steps enough, behind n of them; or where they ran out. -/
def RE (b l : Nat) (T : ByteArray) (p f n q : Nat) (x : St) (dv fv : Array Value) (W : World) (e : Ending) (w' : World) : Prop :=
  (x.st + n ≤ x.s ∧ e = .returned (.tuple #[.agg dv, .agg fv]) ∧ Sl b l T q f T.size (stp x n) w' ∧ Tn W w' [b, l]) ∨
  (x.s < x.st + n ∧ ∃ a : Nat, p ≤ a ∧ a ≤ T.size ∧ e = .returned (.tuple #[.agg Z9, .agg #[.int .i64 4, .int .i64 4, .int .i64 (a : Nat)]]) ∧ Sl b l T a f T.size (spent x) w' ∧ Tn W w' [b, l])
def DirO (T : ByteArray) (p : Nat) (x : St) (n q : Nat) (dv fv : Array Value) : Prop :=
  ∀ (b l f : Nat) (W : World), Sl b l T p f T.size x W → x.r = 0 → Calls Try.prog 10 #[.pointer (some ⟨b, 0, none⟩)] W (RE b l T p f n q x dv fv W)

/-- The result's blocks, the directory's. -/
structure Di (W : World) (b l D : Nat) (B : Array Value) (w : World) : Prop where
  r : w.heap[W.heap.size]? = some (.cells Z9 35 (0, 0))
  f : w.heap[W.heap.size + 1]? = some (.cells #[.int .i64 0, .int .i64 0, .int .i64 0] 37 (0, 0))
  d : w.heap[D]? = some (.cells B 35 (0, 0))
  lt : W.heap.size + 1 < D
  t : Tn W w [b, l]
theorem Di.turned {W w w' : World} {b l D : Nat} {B : Array Value} (h : Di W b l D B w) (hb : b < W.heap.size) (hl : l < W.heap.size) (t : Tn w w' [b, l]) : Di W b l D B w' :=
  ⟨(t.block _ (blk_lt h.r) (by simp; omega)).trans h.r, (t.block _ (blk_lt h.f) (by simp; omega)).trans h.f, (t.block _ (blk_lt h.d) (by have := h.lt; simp; omega)).trans h.d, h.lt, h.t.trans t⟩
theorem Di.gb {W w w' : World} {b l D : Nat} {B : Array Value} (h : Di W b l D B w) (hb : b < W.heap.size) (hl : l < W.heap.size) (g : w.grownBy w' none) : Di W b l D B w' := h.turned hb hl (Tn.gb g (by simp))
/-- Ahead of the directory's block. -/
structure Dj (W : World) (b l : Nat) (w : World) : Prop where
  r : w.heap[W.heap.size]? = some (.cells Z9 35 (0, 0))
  f : w.heap[W.heap.size + 1]? = some (.cells #[.int .i64 0, .int .i64 0, .int .i64 0] 37 (0, 0))
  t : Tn W w [b, l]
theorem Dj.new {W : World} {b l : Nat} : Dj W b l ((W.alloc (.cells Z9 35)).alloc (.cells #[.int .i64 0, .int .i64 0, .int .i64 0] 37)) :=
  ⟨blk_al blk_at _, by rw [← size_alloc W (.cells Z9 35)]; exact blk_at, Tn.gb (gb_trans (World.grownBy_alloc _ _ none) (World.grownBy_alloc _ _ none)) (by simp)⟩
theorem Dj.turned {W w w' : World} {b l : Nat} (h : Dj W b l w) (hb : b < W.heap.size) (hl : l < W.heap.size) (t : Tn w w' [b, l]) : Dj W b l w' :=
  ⟨(t.block _ (blk_lt h.r) (by simp; omega)).trans h.r, (t.block _ (blk_lt h.f) (by simp; omega)).trans h.f, h.t.trans t⟩
theorem Dj.gb {W w w' : World} {b l : Nat} (h : Dj W b l w) (hb : b < W.heap.size) (hl : l < W.heap.size) (g : w.grownBy w' none) : Dj W b l w' := h.turned hb hl (Tn.gb g (by simp))
theorem Dj.di {W w : World} {b l : Nat} {B : Array Value} (h : Dj W b l w) : Di W b l w.heap.size B (w.alloc (.cells B 35)) :=
  ⟨blk_al h.r _, blk_al h.f _, blk_at, blk_lt h.f, h.t.trans (Tn.gb (World.grownBy_alloc _ _ none) (by simp))⟩

end Go.Proofs.Ytajbpcaghmcplaa.Id
