/- Layer 5's law: a number of both. -/
import Derived.Test.YtdcmbjhjfdjdhaaSrcP1
namespace Go.Proofs.Ytdcmbjhjfdjdhaa.Sr
open Go.ChangeShapes Go.WideShapes Go.ChangeAt Go.RowKit
open Go.Proofs.Ytdcmbjhjfdjdhaa.Le
set_option linter.unusedVariables false

set_option maxRecDepth 100000 in
set_option maxHeartbeats 2000000 in
theorem number_no (s : ByteArray) (p f t : Nat) (x : St) (n k : Int) (w : World) (ok : x.Ok) (h1 : p ≤ t) (h2 : t ≤ s.size) (h3 : s.size ≤ 9223372036854775807) (hn : rdB x p t n = false) :
    Calls Try.prog 55 #[.agg (SAc s p f t x), .int .i64 n, .int .i64 0, .bool false, .int .i64 k] w
      fun e w' => e = .returned (.tuple #[.agg (SAc s p f t (x.work 1).1), .bool true]) ∧ w.grownBy w' none := by
  have K := fun w => rread_no s p f t x n w ok h1 h2 h3 hn
  unfold SAc at K ⊢
  obtain ⟨y, hy⟩ : ∃ y, (x.work 1).1 = y := ⟨_, rfl⟩
  rw [hy] at K ⊢
  have hK := Lib.hid K
  clear K hy ok hn h1 h2 h3
  go_enter Try.func55, Try.ntmps55
  go_wp2_with fail
  refine (hK.out _).mono ?_
  rintro e w1 ⟨rfl, g1⟩
  have G1 := Lib.hid (gb_trans (gb_trans (World.grownBy_alloc _ _ none) (World.grownBy_alloc _ _ none)) g1)
  have bR := old2b g1 (by simp)
  have zR := blk_lt bR
  have q0 := blk_cell bR 0
  have q1 := blk_cell bR 1
  have q2 := blk_cell bR 2
  have q3 := blk_cell bR 3
  have q4 := blk_cell bR 4
  have q5 := blk_cell bR 5
  have q6 := blk_cell bR 6
  have q7 := blk_cell bR 7
  have q8 := blk_cell bR 8
  have q9 := blk_cell bR 9
  have q10 := blk_cell bR 10
  have q11 := blk_cell bR 11
  have q12 := blk_cell bR 12
  simp only [List.getElem?_toArray, List.getElem?_cons_succ, List.getElem?_cons_zero] at q0 q1 q2 q3 q4 q5 q6 q7 q8 q9 q10 q11 q12
  have qz0 := blk_free bR 0
  have qz1 := blk_free bR 1
  have qz2 := blk_free bR 2
  have qz3 := blk_free bR 3
  have qz4 := blk_free bR 4
  have qz5 := blk_free bR 5
  have qz6 := blk_free bR 6
  have qz7 := blk_free bR 7
  have qz8 := blk_free bR 8
  have qz9 := blk_free bR 9
  have qz10 := blk_free bR 10
  have qz11 := blk_free bR 11
  have qz12 := blk_free bR 12
  clear bR g1
  go_wp2_with fail
  try go_region
  all_goals
    refine bodyPost_ret (v := .tuple #[.agg #[.string s, .int .i64 f, .int .i64 t, .int .i64 p, .int .i64 y.w, .int .i64 y.h, .int .i64 y.b, .int .i64 y.s, .int .i64 y.by_, .int .i64 y.pk, .int .i64 y.st, .int .i64 y.r, .int .i64 y.a], .bool true]) (by rw [results_cell_tmp (fn := Try.f55) rfl]; go_simp) rfl ⟨rfl, ?_⟩
    repeat' (first | with_reducible exact G1.out | with_reducible refine gb_al ?_ | with_reducible refine gb_st ?_ (by omega) | with_reducible refine gb_dr ?_ | with_reducible refine gb_dn ?_)

set_option maxRecDepth 100000 in
set_option maxHeartbeats 2000000 in
theorem number_lo (s : ByteArray) (p f t n : Nat) (x : St) (k : Int) (w : World) (ok : x.Ok) (h1 : p ≤ t) (h2 : t ≤ s.size) (h3 : s.size ≤ 9223372036854775807) (hn : rdB x p t n = true) (h4 : n ≤ 4) (hk : k < 4) :
    Calls Try.prog 55 #[.agg (SAc s p f t x), .int .i64 n, .int .i64 (numV false (s.extract p (p + n))), .bool true, .int .i64 k] w
      fun e w' => e = .returned (.tuple #[.agg (SAc s ((p : Int) + n) f t (x.work 1).1), .bool true]) ∧ w.grownBy w' none := by
  have K := fun w => rread_yes s p f t n x w ok h1 h2 h3 hn
  unfold SAc at K ⊢
  obtain ⟨y, hy⟩ : ∃ y, (x.work 1).1 = y := ⟨_, rfl⟩
  rw [hy] at K ⊢
  have hz := part_size s p n (by have := rd_of hn; omega)
  obtain ⟨z, hzz⟩ : ∃ z, s.extract p (p + n) = z := ⟨_, rfl⟩
  rw [hzz] at K hz ⊢
  have KL := Lib.hid (fun w => rle_calls z w (by omega))
  have KB := Lib.hid (fun w => rbe_calls z w (by omega))
  have KS := Lib.hid (fun w => rsigned_calls z w (by omega))
  obtain ⟨V, hV⟩ : ∃ V : Int, (numV false z : Int) = V := ⟨_, rfl⟩
  rw [hV] at KL ⊢
  have hK := Lib.hid K
  clear K hy ok hn h1 h2 h3 hz hzz hV
  go_enter Try.func55, Try.ntmps55
  go_wp2_with fail
  refine (hK.out _).mono ?_
  rintro e w1 ⟨rfl, g1⟩
  have G1 := Lib.hid (gb_trans (gb_trans (World.grownBy_alloc _ _ none) (World.grownBy_alloc _ _ none)) g1)
  have bR := old2b g1 (by simp)
  have zR := blk_lt bR
  have q0 := blk_cell bR 0
  have q1 := blk_cell bR 1
  have q2 := blk_cell bR 2
  have q3 := blk_cell bR 3
  have q4 := blk_cell bR 4
  have q5 := blk_cell bR 5
  have q6 := blk_cell bR 6
  have q7 := blk_cell bR 7
  have q8 := blk_cell bR 8
  have q9 := blk_cell bR 9
  have q10 := blk_cell bR 10
  have q11 := blk_cell bR 11
  have q12 := blk_cell bR 12
  simp only [List.getElem?_toArray, List.getElem?_cons_succ, List.getElem?_cons_zero] at q0 q1 q2 q3 q4 q5 q6 q7 q8 q9 q10 q11 q12
  have qz0 := blk_free bR 0
  have qz1 := blk_free bR 1
  have qz2 := blk_free bR 2
  have qz3 := blk_free bR 3
  have qz4 := blk_free bR 4
  have qz5 := blk_free bR 5
  have qz6 := blk_free bR 6
  have qz7 := blk_free bR 7
  have qz8 := blk_free bR 8
  have qz9 := blk_free bR 9
  have qz10 := blk_free bR 10
  have qz11 := blk_free bR 11
  have qz12 := blk_free bR 12
  clear bR g1
  go_wp2_with fail
  refine (KL.out _).mono ?_
  rintro e w' ⟨rfl, rfl⟩
  go_wp2_with fail
  try go_region
  all_goals
    refine bodyPost_ret (v := .tuple #[.agg #[.string s, .int .i64 f, .int .i64 t, .int .i64 ((p : Int) + n), .int .i64 y.w, .int .i64 y.h, .int .i64 y.b, .int .i64 y.s, .int .i64 y.by_, .int .i64 y.pk, .int .i64 y.st, .int .i64 y.r, .int .i64 y.a], .bool true]) (by rw [results_cell_tmp (fn := Try.f55) rfl]; go_simp) rfl ⟨rfl, ?_⟩
    repeat' (first | with_reducible exact G1.out | with_reducible refine gb_al ?_ | with_reducible refine gb_st ?_ (by omega) | with_reducible refine gb_dr ?_ | with_reducible refine gb_dn ?_)

set_option maxRecDepth 100000 in
set_option maxHeartbeats 2000000 in
theorem number_four (s : ByteArray) (p f t n : Nat) (x : St) (k : Int) (w : World) (ok : x.Ok) (h1 : p ≤ t) (h2 : t ≤ s.size) (h3 : s.size ≤ 9223372036854775807) (hn : rdB x p t n = true) (h4 : n ≤ 4) (hk : k = 4) :
    Calls Try.prog 55 #[.agg (SAc s p f t x), .int .i64 n, .int .i64 (sgn (numV false (s.extract p (p + n)))), .bool true, .int .i64 k] w
      fun e w' => e = .returned (.tuple #[.agg (SAc s ((p : Int) + n) f t (x.work 1).1), .bool true]) ∧ w.grownBy w' none := by
  have K := fun w => rread_yes s p f t n x w ok h1 h2 h3 hn
  unfold SAc at K ⊢
  obtain ⟨y, hy⟩ : ∃ y, (x.work 1).1 = y := ⟨_, rfl⟩
  rw [hy] at K ⊢
  have hz := part_size s p n (by have := rd_of hn; omega)
  obtain ⟨z, hzz⟩ : ∃ z, s.extract p (p + n) = z := ⟨_, rfl⟩
  rw [hzz] at K hz ⊢
  have KL := Lib.hid (fun w => rle_calls z w (by omega))
  have KB := Lib.hid (fun w => rbe_calls z w (by omega))
  have KS := Lib.hid (fun w => rsigned_calls z w (by omega))
  obtain ⟨V, hV⟩ : ∃ V : Int, (sgn (numV false z) : Int) = V := ⟨_, rfl⟩
  rw [hV] at KS ⊢
  have hK := Lib.hid K
  clear K hy ok hn h1 h2 h3 hz hzz hV
  go_enter Try.func55, Try.ntmps55
  go_wp2_with fail
  refine (hK.out _).mono ?_
  rintro e w1 ⟨rfl, g1⟩
  have G1 := Lib.hid (gb_trans (gb_trans (World.grownBy_alloc _ _ none) (World.grownBy_alloc _ _ none)) g1)
  have bR := old2b g1 (by simp)
  have zR := blk_lt bR
  have q0 := blk_cell bR 0
  have q1 := blk_cell bR 1
  have q2 := blk_cell bR 2
  have q3 := blk_cell bR 3
  have q4 := blk_cell bR 4
  have q5 := blk_cell bR 5
  have q6 := blk_cell bR 6
  have q7 := blk_cell bR 7
  have q8 := blk_cell bR 8
  have q9 := blk_cell bR 9
  have q10 := blk_cell bR 10
  have q11 := blk_cell bR 11
  have q12 := blk_cell bR 12
  simp only [List.getElem?_toArray, List.getElem?_cons_succ, List.getElem?_cons_zero] at q0 q1 q2 q3 q4 q5 q6 q7 q8 q9 q10 q11 q12
  have qz0 := blk_free bR 0
  have qz1 := blk_free bR 1
  have qz2 := blk_free bR 2
  have qz3 := blk_free bR 3
  have qz4 := blk_free bR 4
  have qz5 := blk_free bR 5
  have qz6 := blk_free bR 6
  have qz7 := blk_free bR 7
  have qz8 := blk_free bR 8
  have qz9 := blk_free bR 9
  have qz10 := blk_free bR 10
  have qz11 := blk_free bR 11
  have qz12 := blk_free bR 12
  clear bR g1
  go_wp2_with fail
  refine (KL.out _).mono ?_
  rintro e w' ⟨rfl, rfl⟩
  go_wp2_with fail
  refine (KS.out _).mono ?_
  rintro e w' ⟨rfl, rfl⟩
  go_wp2_with fail
  try go_region
  all_goals
    refine bodyPost_ret (v := .tuple #[.agg #[.string s, .int .i64 f, .int .i64 t, .int .i64 ((p : Int) + n), .int .i64 y.w, .int .i64 y.h, .int .i64 y.b, .int .i64 y.s, .int .i64 y.by_, .int .i64 y.pk, .int .i64 y.st, .int .i64 y.r, .int .i64 y.a], .bool true]) (by rw [results_cell_tmp (fn := Try.f55) rfl]; go_simp) rfl ⟨rfl, ?_⟩
    repeat' (first | with_reducible exact G1.out | with_reducible refine gb_al ?_ | with_reducible refine gb_st ?_ (by omega) | with_reducible refine gb_dr ?_ | with_reducible refine gb_dn ?_)

set_option maxRecDepth 100000 in
set_option maxHeartbeats 2000000 in
theorem number_hi (s : ByteArray) (p f t n : Nat) (x : St) (k : Int) (w : World) (ok : x.Ok) (h1 : p ≤ t) (h2 : t ≤ s.size) (h3 : s.size ≤ 9223372036854775807) (hn : rdB x p t n = true) (h4 : n ≤ 4) (hk : 4 < k) :
    Calls Try.prog 55 #[.agg (SAc s p f t x), .int .i64 n, .int .i64 (numV true (s.extract p (p + n))), .bool true, .int .i64 k] w
      fun e w' => e = .returned (.tuple #[.agg (SAc s ((p : Int) + n) f t (x.work 1).1), .bool true]) ∧ w.grownBy w' none := by
  have K := fun w => rread_yes s p f t n x w ok h1 h2 h3 hn
  unfold SAc at K ⊢
  obtain ⟨y, hy⟩ : ∃ y, (x.work 1).1 = y := ⟨_, rfl⟩
  rw [hy] at K ⊢
  have hz := part_size s p n (by have := rd_of hn; omega)
  obtain ⟨z, hzz⟩ : ∃ z, s.extract p (p + n) = z := ⟨_, rfl⟩
  rw [hzz] at K hz ⊢
  have KL := Lib.hid (fun w => rle_calls z w (by omega))
  have KB := Lib.hid (fun w => rbe_calls z w (by omega))
  have KS := Lib.hid (fun w => rsigned_calls z w (by omega))
  obtain ⟨V, hV⟩ : ∃ V : Int, (numV true z : Int) = V := ⟨_, rfl⟩
  rw [hV] at KB ⊢
  have hK := Lib.hid K
  clear K hy ok hn h1 h2 h3 hz hzz hV
  go_enter Try.func55, Try.ntmps55
  go_wp2_with fail
  refine (hK.out _).mono ?_
  rintro e w1 ⟨rfl, g1⟩
  have G1 := Lib.hid (gb_trans (gb_trans (World.grownBy_alloc _ _ none) (World.grownBy_alloc _ _ none)) g1)
  have bR := old2b g1 (by simp)
  have zR := blk_lt bR
  have q0 := blk_cell bR 0
  have q1 := blk_cell bR 1
  have q2 := blk_cell bR 2
  have q3 := blk_cell bR 3
  have q4 := blk_cell bR 4
  have q5 := blk_cell bR 5
  have q6 := blk_cell bR 6
  have q7 := blk_cell bR 7
  have q8 := blk_cell bR 8
  have q9 := blk_cell bR 9
  have q10 := blk_cell bR 10
  have q11 := blk_cell bR 11
  have q12 := blk_cell bR 12
  simp only [List.getElem?_toArray, List.getElem?_cons_succ, List.getElem?_cons_zero] at q0 q1 q2 q3 q4 q5 q6 q7 q8 q9 q10 q11 q12
  have qz0 := blk_free bR 0
  have qz1 := blk_free bR 1
  have qz2 := blk_free bR 2
  have qz3 := blk_free bR 3
  have qz4 := blk_free bR 4
  have qz5 := blk_free bR 5
  have qz6 := blk_free bR 6
  have qz7 := blk_free bR 7
  have qz8 := blk_free bR 8
  have qz9 := blk_free bR 9
  have qz10 := blk_free bR 10
  have qz11 := blk_free bR 11
  have qz12 := blk_free bR 12
  clear bR g1
  go_wp2_with fail
  refine (KL.out _).mono ?_
  rintro e w' ⟨rfl, rfl⟩
  go_wp2_with fail
  refine (KB.out _).mono ?_
  rintro e w' ⟨rfl, rfl⟩
  go_wp2_with fail
  try go_region
  all_goals
    refine bodyPost_ret (v := .tuple #[.agg #[.string s, .int .i64 f, .int .i64 t, .int .i64 ((p : Int) + n), .int .i64 y.w, .int .i64 y.h, .int .i64 y.b, .int .i64 y.s, .int .i64 y.by_, .int .i64 y.pk, .int .i64 y.st, .int .i64 y.r, .int .i64 y.a], .bool true]) (by rw [results_cell_tmp (fn := Try.f55) rfl]; go_simp) rfl ⟨rfl, ?_⟩
    repeat' (first | with_reducible exact G1.out | with_reducible refine gb_al ?_ | with_reducible refine gb_st ?_ (by omega) | with_reducible refine gb_dr ?_ | with_reducible refine gb_dn ?_)

end Go.Proofs.Ytdcmbjhjfdjdhaa.Sr
