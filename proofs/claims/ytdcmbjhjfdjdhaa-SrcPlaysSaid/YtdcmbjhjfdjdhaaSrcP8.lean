/- Layer 5's law: no window. -/
import Derived.Test.YtdcmbjhjfdjdhaaSrcP5
namespace Go.Proofs.Ytdcmbjhjfdjdhaa.Sr
open Go.ChangeShapes Go.WideShapes Go.ChangeAt Go.RowKit
open Go.Proofs.Ytdcmbjhjfdjdhaa.Le
set_option linter.unusedVariables false

set_option maxRecDepth 100000 in
set_option maxHeartbeats 2000000 in
theorem one_window_no1 (b l : Nat) (s : ByteArray) (p f t : Nat) (x : St) (n m : Int) (hi : n ≤ 9223372036854775807) (hn : n < f) (w : World) (h : SL b l s p f t x w) :
    Calls Try.prog 13 #[.pointer (some ⟨b, 0, none⟩), .agg (SAc s p f t x), .agg #[.int .i64 11, .int .i64 n, .int .i64 m]] w (OneP b l s w) := by
  have K := Lib.hid (fun w (h : SL b l s p f t x w) => window_no b l s p f t n m w h.so hi (by omega))
  have b3 := h.so.ts
  have b4 := h.so.big
  have hb := h.so.lt
  have hl := h.led.lt
  have H := Lib.hid h
  clear h
  unfold SAc
  go_enter Try.func13, Try.ntmps13
  go_wp2_with fail
  refine (K.out _ ((((H.out.grown (World.grownBy_alloc _ _ none)).grown (World.grownBy_alloc _ _ none)).grown (World.grownBy_alloc _ _ none)))).mono ?_
  rintro e w1 ⟨rfl, g1⟩
  have S1' := Lib.hid (((((H.out.grown (World.grownBy_alloc _ _ none)).grown (World.grownBy_alloc _ _ none)).grown (World.grownBy_alloc _ _ none))).grown g1)
  have g1 := Tn.gb g1 (S := [b, l]) (by simp)
  have G1 := Lib.hid ((Tn.refl w [b, l]).al.al.al.trans g1)
  clear H
  have bX := tn3a g1 (by simp; omega)
  have bO := tn3b g1 (by simp; omega)
  have bR := tn3c g1 (by simp; omega)
  have zX := blk_lt bX
  have zO := blk_lt bO
  have zR := blk_lt bR
  have u0 := blk_cell bX 0
  have u1 := blk_cell bX 1
  have u2 := blk_cell bX 2
  have u3 := blk_cell bX 3
  have u4 := blk_cell bX 4
  have u5 := blk_cell bX 5
  have u6 := blk_cell bX 6
  have u7 := blk_cell bX 7
  have u8 := blk_cell bX 8
  have u9 := blk_cell bX 9
  have u10 := blk_cell bX 10
  have u11 := blk_cell bX 11
  have u12 := blk_cell bX 12
  simp only [List.getElem?_toArray, List.getElem?_cons_succ, List.getElem?_cons_zero] at u0 u1 u2 u3 u4 u5 u6 u7 u8 u9 u10 u11 u12
  have uz0 := blk_free bX 0
  have uz1 := blk_free bX 1
  have uz2 := blk_free bX 2
  have uz3 := blk_free bX 3
  have uz4 := blk_free bX 4
  have uz5 := blk_free bX 5
  have uz6 := blk_free bX 6
  have uz7 := blk_free bX 7
  have uz8 := blk_free bX 8
  have uz9 := blk_free bX 9
  have uz10 := blk_free bX 10
  have uz11 := blk_free bX 11
  have uz12 := blk_free bX 12
  have o0 := blk_cell bO 0
  have o1 := blk_cell bO 1
  have o2 := blk_cell bO 2
  simp only [List.getElem?_toArray, List.getElem?_cons_succ, List.getElem?_cons_zero] at o0 o1 o2
  have q0 := blk_cell bR 0
  have q1 := blk_cell bR 1
  have q2 := blk_cell bR 2
  have q3 := blk_cell bR 3
  have q4 := blk_cell bR 4
  have q5 := blk_cell bR 5
  have q6 := blk_cell bR 6
  have q7 := blk_cell bR 7
  have q8 := blk_cell bR 8
  have q9 := blk_cell bR 9
  have q10 := blk_cell bR 10
  have q11 := blk_cell bR 11
  have q12 := blk_cell bR 12
  simp only [List.getElem?_toArray, List.getElem?_cons_succ, List.getElem?_cons_zero] at q0 q1 q2 q3 q4 q5 q6 q7 q8 q9 q10 q11 q12
  have qz0 := blk_free bR 0
  have qz1 := blk_free bR 1
  have qz2 := blk_free bR 2
  have qz3 := blk_free bR 3
  have qz4 := blk_free bR 4
  have qz5 := blk_free bR 5
  have qz6 := blk_free bR 6
  have qz7 := blk_free bR 7
  have qz8 := blk_free bR 8
  have qz9 := blk_free bR 9
  have qz10 := blk_free bR 10
  have qz11 := blk_free bR 11
  have qz12 := blk_free bR 12
  clear bX bO bR g1
  go_wp2_with fail
  go_region
  all_goals
    go_wp2
    refine bodyPost_ret (v := .tuple #[.pointer (some ⟨b, 0, none⟩), .agg #[.string s, .int .i64 f, .int .i64 t, .int .i64 p, .int .i64 x.w, .int .i64 x.h, .int .i64 x.b, .int .i64 x.s, .int .i64 x.by_, .int .i64 x.pk, .int .i64 x.st, .int .i64 x.r, .int .i64 x.a], .bool true]) (by simp only [results, Try.results13]; go_simp) rfl ?_
    refine ⟨b, p, f, t, x, rfl, S1'.out.fin G1.out [w.heap.size, w.heap.size + 1 + 1] (by simp; omega) hb hl ?_, .inl rfl⟩
    repeat' (first | with_reducible exact Tn.refl w1 _ | with_reducible refine Tn.al ?_ | with_reducible refine Tn.st ?_ (by simp) | with_reducible refine Tn.dr ?_ | with_reducible refine Tn.dn ?_)

set_option maxRecDepth 100000 in
set_option maxHeartbeats 2000000 in
theorem one_window_no2 (b l : Nat) (s : ByteArray) (p f t : Nat) (x : St) (n m : Int) (hi : n ≤ 9223372036854775807) (h0 : f ≤ n) (hn : (t : Int) < n) (w : World) (h : SL b l s p f t x w) :
    Calls Try.prog 13 #[.pointer (some ⟨b, 0, none⟩), .agg (SAc s p f t x), .agg #[.int .i64 11, .int .i64 n, .int .i64 m]] w (OneP b l s w) := by
  have K := Lib.hid (fun w (h : SL b l s p f t x w) => window_no b l s p f t n m w h.so hi (by omega))
  have b3 := h.so.ts
  have b4 := h.so.big
  have hb := h.so.lt
  have hl := h.led.lt
  have H := Lib.hid h
  clear h
  unfold SAc
  go_enter Try.func13, Try.ntmps13
  go_wp2_with fail
  refine (K.out _ ((((H.out.grown (World.grownBy_alloc _ _ none)).grown (World.grownBy_alloc _ _ none)).grown (World.grownBy_alloc _ _ none)))).mono ?_
  rintro e w1 ⟨rfl, g1⟩
  have S1' := Lib.hid (((((H.out.grown (World.grownBy_alloc _ _ none)).grown (World.grownBy_alloc _ _ none)).grown (World.grownBy_alloc _ _ none))).grown g1)
  have g1 := Tn.gb g1 (S := [b, l]) (by simp)
  have G1 := Lib.hid ((Tn.refl w [b, l]).al.al.al.trans g1)
  clear H
  have bX := tn3a g1 (by simp; omega)
  have bO := tn3b g1 (by simp; omega)
  have bR := tn3c g1 (by simp; omega)
  have zX := blk_lt bX
  have zO := blk_lt bO
  have zR := blk_lt bR
  have u0 := blk_cell bX 0
  have u1 := blk_cell bX 1
  have u2 := blk_cell bX 2
  have u3 := blk_cell bX 3
  have u4 := blk_cell bX 4
  have u5 := blk_cell bX 5
  have u6 := blk_cell bX 6
  have u7 := blk_cell bX 7
  have u8 := blk_cell bX 8
  have u9 := blk_cell bX 9
  have u10 := blk_cell bX 10
  have u11 := blk_cell bX 11
  have u12 := blk_cell bX 12
  simp only [List.getElem?_toArray, List.getElem?_cons_succ, List.getElem?_cons_zero] at u0 u1 u2 u3 u4 u5 u6 u7 u8 u9 u10 u11 u12
  have uz0 := blk_free bX 0
  have uz1 := blk_free bX 1
  have uz2 := blk_free bX 2
  have uz3 := blk_free bX 3
  have uz4 := blk_free bX 4
  have uz5 := blk_free bX 5
  have uz6 := blk_free bX 6
  have uz7 := blk_free bX 7
  have uz8 := blk_free bX 8
  have uz9 := blk_free bX 9
  have uz10 := blk_free bX 10
  have uz11 := blk_free bX 11
  have uz12 := blk_free bX 12
  have o0 := blk_cell bO 0
  have o1 := blk_cell bO 1
  have o2 := blk_cell bO 2
  simp only [List.getElem?_toArray, List.getElem?_cons_succ, List.getElem?_cons_zero] at o0 o1 o2
  have q0 := blk_cell bR 0
  have q1 := blk_cell bR 1
  have q2 := blk_cell bR 2
  have q3 := blk_cell bR 3
  have q4 := blk_cell bR 4
  have q5 := blk_cell bR 5
  have q6 := blk_cell bR 6
  have q7 := blk_cell bR 7
  have q8 := blk_cell bR 8
  have q9 := blk_cell bR 9
  have q10 := blk_cell bR 10
  have q11 := blk_cell bR 11
  have q12 := blk_cell bR 12
  simp only [List.getElem?_toArray, List.getElem?_cons_succ, List.getElem?_cons_zero] at q0 q1 q2 q3 q4 q5 q6 q7 q8 q9 q10 q11 q12
  have qz0 := blk_free bR 0
  have qz1 := blk_free bR 1
  have qz2 := blk_free bR 2
  have qz3 := blk_free bR 3
  have qz4 := blk_free bR 4
  have qz5 := blk_free bR 5
  have qz6 := blk_free bR 6
  have qz7 := blk_free bR 7
  have qz8 := blk_free bR 8
  have qz9 := blk_free bR 9
  have qz10 := blk_free bR 10
  have qz11 := blk_free bR 11
  have qz12 := blk_free bR 12
  clear bX bO bR g1
  go_wp2_with fail
  go_region
  all_goals
    go_wp2
    refine bodyPost_ret (v := .tuple #[.pointer (some ⟨b, 0, none⟩), .agg #[.string s, .int .i64 f, .int .i64 t, .int .i64 p, .int .i64 x.w, .int .i64 x.h, .int .i64 x.b, .int .i64 x.s, .int .i64 x.by_, .int .i64 x.pk, .int .i64 x.st, .int .i64 x.r, .int .i64 x.a], .bool true]) (by simp only [results, Try.results13]; go_simp) rfl ?_
    refine ⟨b, p, f, t, x, rfl, S1'.out.fin G1.out [w.heap.size, w.heap.size + 1 + 1] (by simp; omega) hb hl ?_, .inl rfl⟩
    repeat' (first | with_reducible exact Tn.refl w1 _ | with_reducible refine Tn.al ?_ | with_reducible refine Tn.st ?_ (by simp) | with_reducible refine Tn.dr ?_ | with_reducible refine Tn.dn ?_)

set_option maxRecDepth 100000 in
set_option maxHeartbeats 2000000 in
theorem one_window_no3 (b l : Nat) (s : ByteArray) (p f t : Nat) (x : St) (n m : Int) (hi : n ≤ 9223372036854775807) (h0 : f ≤ n) (h1 : n ≤ (t : Int)) (hn : m < 0) (w : World) (h : SL b l s p f t x w) :
    Calls Try.prog 13 #[.pointer (some ⟨b, 0, none⟩), .agg (SAc s p f t x), .agg #[.int .i64 11, .int .i64 n, .int .i64 m]] w (OneP b l s w) := by
  have K := Lib.hid (fun w (h : SL b l s p f t x w) => window_no b l s p f t n m w h.so hi (by omega))
  have b3 := h.so.ts
  have b4 := h.so.big
  have hb := h.so.lt
  have hl := h.led.lt
  have H := Lib.hid h
  clear h
  unfold SAc
  go_enter Try.func13, Try.ntmps13
  go_wp2_with fail
  refine (K.out _ ((((H.out.grown (World.grownBy_alloc _ _ none)).grown (World.grownBy_alloc _ _ none)).grown (World.grownBy_alloc _ _ none)))).mono ?_
  rintro e w1 ⟨rfl, g1⟩
  have S1' := Lib.hid (((((H.out.grown (World.grownBy_alloc _ _ none)).grown (World.grownBy_alloc _ _ none)).grown (World.grownBy_alloc _ _ none))).grown g1)
  have g1 := Tn.gb g1 (S := [b, l]) (by simp)
  have G1 := Lib.hid ((Tn.refl w [b, l]).al.al.al.trans g1)
  clear H
  have bX := tn3a g1 (by simp; omega)
  have bO := tn3b g1 (by simp; omega)
  have bR := tn3c g1 (by simp; omega)
  have zX := blk_lt bX
  have zO := blk_lt bO
  have zR := blk_lt bR
  have u0 := blk_cell bX 0
  have u1 := blk_cell bX 1
  have u2 := blk_cell bX 2
  have u3 := blk_cell bX 3
  have u4 := blk_cell bX 4
  have u5 := blk_cell bX 5
  have u6 := blk_cell bX 6
  have u7 := blk_cell bX 7
  have u8 := blk_cell bX 8
  have u9 := blk_cell bX 9
  have u10 := blk_cell bX 10
  have u11 := blk_cell bX 11
  have u12 := blk_cell bX 12
  simp only [List.getElem?_toArray, List.getElem?_cons_succ, List.getElem?_cons_zero] at u0 u1 u2 u3 u4 u5 u6 u7 u8 u9 u10 u11 u12
  have uz0 := blk_free bX 0
  have uz1 := blk_free bX 1
  have uz2 := blk_free bX 2
  have uz3 := blk_free bX 3
  have uz4 := blk_free bX 4
  have uz5 := blk_free bX 5
  have uz6 := blk_free bX 6
  have uz7 := blk_free bX 7
  have uz8 := blk_free bX 8
  have uz9 := blk_free bX 9
  have uz10 := blk_free bX 10
  have uz11 := blk_free bX 11
  have uz12 := blk_free bX 12
  have o0 := blk_cell bO 0
  have o1 := blk_cell bO 1
  have o2 := blk_cell bO 2
  simp only [List.getElem?_toArray, List.getElem?_cons_succ, List.getElem?_cons_zero] at o0 o1 o2
  have q0 := blk_cell bR 0
  have q1 := blk_cell bR 1
  have q2 := blk_cell bR 2
  have q3 := blk_cell bR 3
  have q4 := blk_cell bR 4
  have q5 := blk_cell bR 5
  have q6 := blk_cell bR 6
  have q7 := blk_cell bR 7
  have q8 := blk_cell bR 8
  have q9 := blk_cell bR 9
  have q10 := blk_cell bR 10
  have q11 := blk_cell bR 11
  have q12 := blk_cell bR 12
  simp only [List.getElem?_toArray, List.getElem?_cons_succ, List.getElem?_cons_zero] at q0 q1 q2 q3 q4 q5 q6 q7 q8 q9 q10 q11 q12
  have qz0 := blk_free bR 0
  have qz1 := blk_free bR 1
  have qz2 := blk_free bR 2
  have qz3 := blk_free bR 3
  have qz4 := blk_free bR 4
  have qz5 := blk_free bR 5
  have qz6 := blk_free bR 6
  have qz7 := blk_free bR 7
  have qz8 := blk_free bR 8
  have qz9 := blk_free bR 9
  have qz10 := blk_free bR 10
  have qz11 := blk_free bR 11
  have qz12 := blk_free bR 12
  clear bX bO bR g1
  go_wp2_with fail
  go_region
  all_goals
    go_wp2
    refine bodyPost_ret (v := .tuple #[.pointer (some ⟨b, 0, none⟩), .agg #[.string s, .int .i64 f, .int .i64 t, .int .i64 p, .int .i64 x.w, .int .i64 x.h, .int .i64 x.b, .int .i64 x.s, .int .i64 x.by_, .int .i64 x.pk, .int .i64 x.st, .int .i64 x.r, .int .i64 x.a], .bool true]) (by simp only [results, Try.results13]; go_simp) rfl ?_
    refine ⟨b, p, f, t, x, rfl, S1'.out.fin G1.out [w.heap.size, w.heap.size + 1 + 1] (by simp; omega) hb hl ?_, .inl rfl⟩
    repeat' (first | with_reducible exact Tn.refl w1 _ | with_reducible refine Tn.al ?_ | with_reducible refine Tn.st ?_ (by simp) | with_reducible refine Tn.dr ?_ | with_reducible refine Tn.dn ?_)

set_option maxRecDepth 100000 in
set_option maxHeartbeats 2000000 in
theorem one_window_no4 (b l : Nat) (s : ByteArray) (p f t : Nat) (x : St) (n m : Int) (hi : n ≤ 9223372036854775807) (h0 : f ≤ n) (h1 : n ≤ (t : Int)) (h2 : 0 ≤ m) (hn : (t : Int) - n < m) (w : World) (h : SL b l s p f t x w) :
    Calls Try.prog 13 #[.pointer (some ⟨b, 0, none⟩), .agg (SAc s p f t x), .agg #[.int .i64 11, .int .i64 n, .int .i64 m]] w (OneP b l s w) := by
  have K := Lib.hid (fun w (h : SL b l s p f t x w) => window_no b l s p f t n m w h.so hi (by omega))
  have b3 := h.so.ts
  have b4 := h.so.big
  have hb := h.so.lt
  have hl := h.led.lt
  have H := Lib.hid h
  clear h
  unfold SAc
  go_enter Try.func13, Try.ntmps13
  go_wp2_with fail
  refine (K.out _ ((((H.out.grown (World.grownBy_alloc _ _ none)).grown (World.grownBy_alloc _ _ none)).grown (World.grownBy_alloc _ _ none)))).mono ?_
  rintro e w1 ⟨rfl, g1⟩
  have S1' := Lib.hid (((((H.out.grown (World.grownBy_alloc _ _ none)).grown (World.grownBy_alloc _ _ none)).grown (World.grownBy_alloc _ _ none))).grown g1)
  have g1 := Tn.gb g1 (S := [b, l]) (by simp)
  have G1 := Lib.hid ((Tn.refl w [b, l]).al.al.al.trans g1)
  clear H
  have bX := tn3a g1 (by simp; omega)
  have bO := tn3b g1 (by simp; omega)
  have bR := tn3c g1 (by simp; omega)
  have zX := blk_lt bX
  have zO := blk_lt bO
  have zR := blk_lt bR
  have u0 := blk_cell bX 0
  have u1 := blk_cell bX 1
  have u2 := blk_cell bX 2
  have u3 := blk_cell bX 3
  have u4 := blk_cell bX 4
  have u5 := blk_cell bX 5
  have u6 := blk_cell bX 6
  have u7 := blk_cell bX 7
  have u8 := blk_cell bX 8
  have u9 := blk_cell bX 9
  have u10 := blk_cell bX 10
  have u11 := blk_cell bX 11
  have u12 := blk_cell bX 12
  simp only [List.getElem?_toArray, List.getElem?_cons_succ, List.getElem?_cons_zero] at u0 u1 u2 u3 u4 u5 u6 u7 u8 u9 u10 u11 u12
  have uz0 := blk_free bX 0
  have uz1 := blk_free bX 1
  have uz2 := blk_free bX 2
  have uz3 := blk_free bX 3
  have uz4 := blk_free bX 4
  have uz5 := blk_free bX 5
  have uz6 := blk_free bX 6
  have uz7 := blk_free bX 7
  have uz8 := blk_free bX 8
  have uz9 := blk_free bX 9
  have uz10 := blk_free bX 10
  have uz11 := blk_free bX 11
  have uz12 := blk_free bX 12
  have o0 := blk_cell bO 0
  have o1 := blk_cell bO 1
  have o2 := blk_cell bO 2
  simp only [List.getElem?_toArray, List.getElem?_cons_succ, List.getElem?_cons_zero] at o0 o1 o2
  have q0 := blk_cell bR 0
  have q1 := blk_cell bR 1
  have q2 := blk_cell bR 2
  have q3 := blk_cell bR 3
  have q4 := blk_cell bR 4
  have q5 := blk_cell bR 5
  have q6 := blk_cell bR 6
  have q7 := blk_cell bR 7
  have q8 := blk_cell bR 8
  have q9 := blk_cell bR 9
  have q10 := blk_cell bR 10
  have q11 := blk_cell bR 11
  have q12 := blk_cell bR 12
  simp only [List.getElem?_toArray, List.getElem?_cons_succ, List.getElem?_cons_zero] at q0 q1 q2 q3 q4 q5 q6 q7 q8 q9 q10 q11 q12
  have qz0 := blk_free bR 0
  have qz1 := blk_free bR 1
  have qz2 := blk_free bR 2
  have qz3 := blk_free bR 3
  have qz4 := blk_free bR 4
  have qz5 := blk_free bR 5
  have qz6 := blk_free bR 6
  have qz7 := blk_free bR 7
  have qz8 := blk_free bR 8
  have qz9 := blk_free bR 9
  have qz10 := blk_free bR 10
  have qz11 := blk_free bR 11
  have qz12 := blk_free bR 12
  clear bX bO bR g1
  go_wp2_with fail
  go_region
  all_goals
    go_wp2
    refine bodyPost_ret (v := .tuple #[.pointer (some ⟨b, 0, none⟩), .agg #[.string s, .int .i64 f, .int .i64 t, .int .i64 p, .int .i64 x.w, .int .i64 x.h, .int .i64 x.b, .int .i64 x.s, .int .i64 x.by_, .int .i64 x.pk, .int .i64 x.st, .int .i64 x.r, .int .i64 x.a], .bool true]) (by simp only [results, Try.results13]; go_simp) rfl ?_
    refine ⟨b, p, f, t, x, rfl, S1'.out.fin G1.out [w.heap.size, w.heap.size + 1 + 1] (by simp; omega) hb hl ?_, .inl rfl⟩
    repeat' (first | with_reducible exact Tn.refl w1 _ | with_reducible refine Tn.al ?_ | with_reducible refine Tn.st ?_ (by simp) | with_reducible refine Tn.dr ?_ | with_reducible refine Tn.dn ?_)

theorem one_window_no (b l : Nat) (s : ByteArray) (p f t : Nat) (x : St) (n m : Int) (hi : n ≤ 9223372036854775807) (hn : n < f ∨ (t : Int) < n ∨ m < 0 ∨ (t : Int) - n < m) (w : World) (h : SL b l s p f t x w) :
    Calls Try.prog 13 #[.pointer (some ⟨b, 0, none⟩), .agg (SAc s p f t x), .agg #[.int .i64 11, .int .i64 n, .int .i64 m]] w (OneP b l s w) := by
  by_cases h0 : n < f
  · exact one_window_no1 b l s p f t x n m hi h0 w h
  by_cases h1 : (t : Int) < n
  · exact one_window_no2 b l s p f t x n m hi (by omega) h1 w h
  by_cases h2 : m < 0
  · exact one_window_no3 b l s p f t x n m hi (by omega) (by omega) h2 w h
  · exact one_window_no4 b l s p f t x n m hi (by omega) (by omega) (by omega) (by omega) w h

end Go.Proofs.Ytdcmbjhjfdjdhaa.Sr
