/- Layer 5's law: calls of no kind, and readings of numbers. -/
import Derived.Test.YtdcmbjhjfdjdhaaSrcP3
namespace Go.Proofs.Ytdcmbjhjfdjdhaa.Sr
open Go.ChangeShapes Go.WideShapes Go.ChangeAt Go.RowKit
open Go.Proofs.Ytdcmbjhjfdjdhaa.Le
set_option linter.unusedVariables false

/-- What a call of both leaves. -/
def OneP (b l : Nat) (s : ByteArray) (w : World) (e : Ending) (w' : World) : Prop :=
  ∃ (c p f t : Nat) (x : St), e = .returned (.tuple #[.pointer (some ⟨c, 0, none⟩), .agg (SAc s p f t x), .bool true]) ∧ (SL c l s p f t x w' ∧ Tn w w' [b, l]) ∧ (c = b ∨ w.heap.size ≤ c)

set_option maxRecDepth 100000 in
set_option maxHeartbeats 2000000 in
theorem one_none (b l : Nat) (s : ByteArray) (p f t : Nat) (x : St) (k n m : Int) (hk : k < 1 ∨ 11 < k) (w : World) (h : SL b l s p f t x w) :
    Calls Try.prog 13 #[.pointer (some ⟨b, 0, none⟩), .agg (SAc s p f t x), .agg #[.int .i64 k, .int .i64 n, .int .i64 m]] w (OneP b l s w) := by
  have hb := h.so.lt
  have hl := h.led.lt
  have H := Lib.hid h
  clear h
  unfold SAc
  rcases hk with hk | hk
  · go_enter Try.func13, Try.ntmps13
    go_wp2_with fail
    go_region
    all_goals
      go_wp2
      refine bodyPost_ret (v := .tuple #[.pointer (some ⟨b, 0, none⟩), .agg #[.string s, .int .i64 f, .int .i64 t, .int .i64 p, .int .i64 x.w, .int .i64 x.h, .int .i64 x.b, .int .i64 x.s, .int .i64 x.by_, .int .i64 x.pk, .int .i64 x.st, .int .i64 x.r, .int .i64 x.a], .bool true]) (by simp only [results, Try.results13]; go_simp) rfl ?_
      refine ⟨b, p, f, t, x, rfl, H.out.fin (Tn.refl w _) [w.heap.size, w.heap.size + 1, w.heap.size + 1 + 1] (by simp; omega) hb hl ?_, .inl rfl⟩
      repeat' (first | with_reducible exact Tn.refl w _ | with_reducible refine Tn.al ?_ | with_reducible refine Tn.st ?_ (by simp) | with_reducible refine Tn.dr ?_ | with_reducible refine Tn.dn ?_)
  · go_enter Try.func13, Try.ntmps13
    go_wp2_with fail
    go_region
    all_goals
      go_wp2
      refine bodyPost_ret (v := .tuple #[.pointer (some ⟨b, 0, none⟩), .agg #[.string s, .int .i64 f, .int .i64 t, .int .i64 p, .int .i64 x.w, .int .i64 x.h, .int .i64 x.b, .int .i64 x.s, .int .i64 x.by_, .int .i64 x.pk, .int .i64 x.st, .int .i64 x.r, .int .i64 x.a], .bool true]) (by simp only [results, Try.results13]; go_simp) rfl ?_
      refine ⟨b, p, f, t, x, rfl, H.out.fin (Tn.refl w _) [w.heap.size, w.heap.size + 1, w.heap.size + 1 + 1] (by simp; omega) hb hl ?_, .inl rfl⟩
      repeat' (first | with_reducible exact Tn.refl w _ | with_reducible refine Tn.al ?_ | with_reducible refine Tn.st ?_ (by simp) | with_reducible refine Tn.dr ?_ | with_reducible refine Tn.dn ?_)

set_option maxRecDepth 100000 in
set_option maxHeartbeats 2000000 in
theorem one_reads (b l : Nat) (s : ByteArray) (p f t : Nat) (x : St) (k n m : Int) (k1 : 1 ≤ k) (k6 : k ≤ 6)
    (K : ∀ w, SL b l s p f t x w → Calls Try.prog 40 #[.pointer (some ⟨b, 0, none⟩), .agg (SAc s p f t x), .int .i64 k] w
      fun e w' => ∃ p' : Nat, e = .returned (.tuple #[.agg (SAc s p' f t (x.work 1).1), .bool true]) ∧ SL b l s p' f t (x.work 1).1 w' ∧ Tn w w' [b, l]) (w : World) (h : SL b l s p f t x w) :
    Calls Try.prog 13 #[.pointer (some ⟨b, 0, none⟩), .agg (SAc s p f t x), .agg #[.int .i64 k, .int .i64 n, .int .i64 m]] w (OneP b l s w) := by
  have hb := h.so.lt
  have hl := h.led.lt
  have H := Lib.hid h
  obtain ⟨y, hy⟩ : ∃ y, (x.work 1).1 = y := ⟨_, rfl⟩
  rw [hy] at K
  unfold SAc at K ⊢
  have hK := Lib.hid K
  clear h hy K
  go_enter Try.func13, Try.ntmps13
  go_wp2_with fail
  refine (hK.out _ ((((H.out.grown (World.grownBy_alloc _ _ none)).grown (World.grownBy_alloc _ _ none)).grown (World.grownBy_alloc _ _ none)))).mono ?_
  rintro e w1 ⟨p', rfl, S1, g1⟩
  have bR := tn3c g1 (by simp; omega)
  have zR := blk_lt bR
  have G1 := Lib.hid ((Tn.refl w [b, l]).al.al.al.trans g1)
  have S1' := Lib.hid S1
  have hb1 := S1.so.lt
  have hl1 := S1.led.lt
  clear S1 g1 H hK
  have q0 := blk_cell bR 0
  have q1 := blk_cell bR 1
  have q2 := blk_cell bR 2
  have q3 := blk_cell bR 3
  have q4 := blk_cell bR 4
  have q5 := blk_cell bR 5
  have q6 := blk_cell bR 6
  have q7 := blk_cell bR 7
  have q8 := blk_cell bR 8
  have q9 := blk_cell bR 9
  have q10 := blk_cell bR 10
  have q11 := blk_cell bR 11
  have q12 := blk_cell bR 12
  simp only [List.getElem?_toArray, List.getElem?_cons_succ, List.getElem?_cons_zero] at q0 q1 q2 q3 q4 q5 q6 q7 q8 q9 q10 q11 q12
  have qz0 := blk_free bR 0
  have qz1 := blk_free bR 1
  have qz2 := blk_free bR 2
  have qz3 := blk_free bR 3
  have qz4 := blk_free bR 4
  have qz5 := blk_free bR 5
  have qz6 := blk_free bR 6
  have qz7 := blk_free bR 7
  have qz8 := blk_free bR 8
  have qz9 := blk_free bR 9
  have qz10 := blk_free bR 10
  have qz11 := blk_free bR 11
  have qz12 := blk_free bR 12
  clear bR
  go_wp2_with fail
  go_region
  all_goals
    go_wp2
    refine bodyPost_ret (v := .tuple #[.pointer (some ⟨b, 0, none⟩), .agg #[.string s, .int .i64 f, .int .i64 t, .int .i64 p', .int .i64 y.w, .int .i64 y.h, .int .i64 y.b, .int .i64 y.s, .int .i64 y.by_, .int .i64 y.pk, .int .i64 y.st, .int .i64 y.r, .int .i64 y.a], .bool true]) (by simp only [results, Try.results13]; go_simp) rfl ?_
    refine ⟨b, p', f, t, y, rfl, S1'.out.fin G1.out [w.heap.size + 1 + 1] (by simp; omega) hb hl ?_, .inl rfl⟩
    repeat' (first | with_reducible exact Tn.refl w1 _ | with_reducible refine Tn.al ?_ | with_reducible refine Tn.st ?_ (by simp) | with_reducible refine Tn.dr ?_ | with_reducible refine Tn.dn ?_)

end Go.Proofs.Ytdcmbjhjfdjdhaa.Sr
