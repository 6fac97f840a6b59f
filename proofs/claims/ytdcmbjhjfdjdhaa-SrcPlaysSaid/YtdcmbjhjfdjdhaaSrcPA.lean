/- Layer 5's law: no byte at the place. -/
import Derived.Test.YtdcmbjhjfdjdhaaSrcP5
namespace Go.Proofs.Ytdcmbjhjfdjdhaa.Sr
open Go.ChangeShapes Go.WideShapes Go.ChangeAt Go.RowKit
open Go.Proofs.Ytdcmbjhjfdjdhaa.Le
set_option linter.unusedVariables false

set_option maxRecDepth 100000 in
set_option maxHeartbeats 2000000 in
theorem one_peek_no (b l : Nat) (s : ByteArray) (p f t : Nat) (x : St) (n m : Int) (w : World) (h : SL b l s p f t x w) (hr : rdB x p t 1 = false) :
    Calls Try.prog 13 #[.pointer (some ⟨b, 0, none⟩), .agg (SAc s p f t x), .agg #[.int .i64 8, .int .i64 n, .int .i64 m]] w (OneP b l s w) := by
  have N := read_is_no h hr
  have K := fun w (h : SL b l s p f t x w) => peek_no b l s p f t x w h.so h.led h.ok hr
  clear hr
  have HOK := Lib.hid (h.ok.work 1)
  obtain ⟨y, hy⟩ : ∃ y, (x.work 1).1 = y := ⟨_, rfl⟩
  unfold ReadIs SAc at N
  rw [hy] at N K HOK
  have hK := Lib.hid K
  have HN := Lib.hid N
  have hb := h.so.lt
  have hl := h.led.lt
  have H := Lib.hid h
  clear h hy K N
  unfold SAc
  go_enter Try.func13, Try.ntmps13
  go_wp2_with fail
  refine (hK.out _ ((((H.out.grown (World.grownBy_alloc _ _ none)).grown (World.grownBy_alloc _ _ none)).grown (World.grownBy_alloc _ _ none)))).mono ?_
  rintro e w1 ⟨rfl, ⟨S1, L1⟩, g1⟩
  have g1 := Tn.gb g1 (S := [b, l]) (by simp)
  have bX := tn3a g1 (by simp; omega)
  have bO := tn3b g1 (by simp; omega)
  have bR := tn3c g1 (by simp; omega)
  have G1 := Lib.hid ((Tn.refl w [b, l]).al.al.al.trans g1)
  have S1' := Lib.hid (show SL b l s p f t y w1 from ⟨S1, L1, HOK.out⟩)
  have hb1 := S1.lt
  have hl1 := L1.lt
  clear S1 L1 g1 H hK
  have x0 := blk_cell bX 0
  have x1 := blk_cell bX 1
  have x2 := blk_cell bX 2
  have x3 := blk_cell bX 3
  have x4 := blk_cell bX 4
  have x5 := blk_cell bX 5
  have x6 := blk_cell bX 6
  have x7 := blk_cell bX 7
  have x8 := blk_cell bX 8
  have x9 := blk_cell bX 9
  have x10 := blk_cell bX 10
  have x11 := blk_cell bX 11
  have x12 := blk_cell bX 12
  simp only [List.getElem?_toArray, List.getElem?_cons_succ, List.getElem?_cons_zero] at x0 x1 x2 x3 x4 x5 x6 x7 x8 x9 x10 x11 x12
  go_wp2_with fail
  refine (HN.out _).mono ?_
  rintro e w2 ⟨rfl, g2⟩
  have bR2 := old0 g2 bR (blk_lt bR) (by simp)
  have bX2 := old0 g2 bX (blk_lt bX) (by simp)
  have zR := blk_lt bR2
  have zX := blk_lt bX2
  have G2 := Lib.hid (Tn.gb g2 (S := [w.heap.size, w.heap.size + 1 + 1]) (by simp))
  clear bX bO bR g2 x0 x1 x2 x3 x4 x5 x6 x7 x8 x9 x10 x11 x12
  have q0 := blk_cell bR2 0
  have q1 := blk_cell bR2 1
  have q2 := blk_cell bR2 2
  have q3 := blk_cell bR2 3
  have q4 := blk_cell bR2 4
  have q5 := blk_cell bR2 5
  have q6 := blk_cell bR2 6
  have q7 := blk_cell bR2 7
  have q8 := blk_cell bR2 8
  have q9 := blk_cell bR2 9
  have q10 := blk_cell bR2 10
  have q11 := blk_cell bR2 11
  have q12 := blk_cell bR2 12
  simp only [List.getElem?_toArray, List.getElem?_cons_succ, List.getElem?_cons_zero] at q0 q1 q2 q3 q4 q5 q6 q7 q8 q9 q10 q11 q12
  have qz0 := blk_free bR2 0
  have qz1 := blk_free bR2 1
  have qz2 := blk_free bR2 2
  have qz3 := blk_free bR2 3
  have qz4 := blk_free bR2 4
  have qz5 := blk_free bR2 5
  have qz6 := blk_free bR2 6
  have qz7 := blk_free bR2 7
  have qz8 := blk_free bR2 8
  have qz9 := blk_free bR2 9
  have qz10 := blk_free bR2 10
  have qz11 := blk_free bR2 11
  have qz12 := blk_free bR2 12
  have u0 := blk_cell bX2 0
  have u1 := blk_cell bX2 1
  have u2 := blk_cell bX2 2
  have u3 := blk_cell bX2 3
  have u4 := blk_cell bX2 4
  have u5 := blk_cell bX2 5
  have u6 := blk_cell bX2 6
  have u7 := blk_cell bX2 7
  have u8 := blk_cell bX2 8
  have u9 := blk_cell bX2 9
  have u10 := blk_cell bX2 10
  have u11 := blk_cell bX2 11
  have u12 := blk_cell bX2 12
  simp only [List.getElem?_toArray, List.getElem?_cons_succ, List.getElem?_cons_zero] at u0 u1 u2 u3 u4 u5 u6 u7 u8 u9 u10 u11 u12
  clear bR2 bX2
  go_wp2_with fail
  go_region
  all_goals
    go_wp2
    refine bodyPost_ret (v := .tuple #[.pointer (some ⟨b, 0, none⟩), .agg #[.string s, .int .i64 f, .int .i64 t, .int .i64 p, .int .i64 y.w, .int .i64 y.h, .int .i64 y.b, .int .i64 y.s, .int .i64 y.by_, .int .i64 y.pk, .int .i64 y.st, .int .i64 y.r, .int .i64 y.a], .bool true]) (by simp only [results, Try.results13]; go_simp) rfl ?_
    refine ⟨b, p, f, t, y, rfl, S1'.out.fin G1.out [w.heap.size, w.heap.size + 1 + 1] (by simp; omega) hb hl ?_, .inl rfl⟩
    repeat' (first | with_reducible exact G2.out | with_reducible refine Tn.al ?_ | with_reducible refine Tn.st ?_ (by simp) | with_reducible refine Tn.dr ?_ | with_reducible refine Tn.dn ?_)

end Go.Proofs.Ytdcmbjhjfdjdhaa.Sr
