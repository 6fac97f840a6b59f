/- Layer 5's answer: a reading by states. -/
import Derived.Test.YtdcmbjhjfdjdhaaSrcB
import Derived.Test.YtdcmbjhjfdjdhaaLed6
namespace Go.Proofs.Ytdcmbjhjfdjdhaa.Sr
open Go.ChangeShapes Go.WideShapes Go.ChangeAt Go.RowKit
open Go.Proofs.Ytdcmbjhjfdjdhaa.Le
set_option linter.unusedVariables false

theorem gb_st {a b : World} {k o : Nat} {v : Value} (h : a.grownBy b none) (hk : a.heap.size ≤ k) : a.grownBy (b.setCell ⟨k, o, none⟩ v) none := gb_own h hk (gb_set _ _ _ _)
theorem gb_al {a b : World} {o : Obj} (h : a.grownBy b none) : a.grownBy (b.alloc o) none := gb_trans h (World.grownBy_alloc _ _ _)
theorem gb_dr {a b : World} (h : a.grownBy b none) : a.grownBy b.drew none := gb_trans h (gb_drew _ _)
theorem gb_dn {a b : World} {n : Nat} (h : a.grownBy b none) : a.grownBy (b.drewN n) none := gb_trans h (gb_drewN _ _ _)

/-- The cells of the document's state of a source. -/
def SAc (s : ByteArray) (p f t : Int) (x : St) : Array Value :=
  #[.string s, .int .i64 f, .int .i64 t, .int .i64 p, .int .i64 x.w, .int .i64 x.h, .int .i64 x.b, .int .i64 x.s, .int .i64 x.by_, .int .i64 x.pk, .int .i64 x.st, .int .i64 x.r, .int .i64 x.a]

set_option maxRecDepth 100000 in
set_option maxHeartbeats 4000000 in
theorem rread_no (s : ByteArray) (p f t : Nat) (x : St) (n : Int) (w : World) (ok : x.Ok) (h1 : p ≤ t) (h2 : t ≤ s.size) (h3 : s.size ≤ 9223372036854775807) (hn : rdB x p t n = false) :
    Calls Try.prog 41 #[.agg (SAc s p f t x), .int .i64 n] w
      fun e w' => e = .returned (.tuple #[.agg (SAc s p f t (x.work 1).1), .string ⟨#[]⟩, .bool false]) ∧ w.grownBy w' none := by
  have K := fun w => rwork_calls x 1 w ok
  unfold SAc
  unfold St.agg at K
  obtain ⟨y, hy⟩ : ∃ y, (x.work 1).1 = y := ⟨_, rfl⟩
  obtain ⟨r, hr⟩ : ∃ r, (x.work 1).2 = r := ⟨_, rfl⟩
  unfold rdB at hn
  rw [hr] at hn
  rw [hy, hr] at K
  rw [hy]
  have hK := Lib.hid K
  clear K hy hr ok
  cases r with
  | false =>
    go_enter Try.func41, Try.ntmps41
    go_wp2_with fail
    refine (hK.out _).mono ?_
    rintro e w1 ⟨rfl, g1⟩
    have G1 := Lib.hid (gb_trans (gb_trans (World.grownBy_alloc _ _ none) (World.grownBy_alloc _ _ none)) g1)
    have bX := old2a g1 (by simp)
    have bR := old2b g1 (by simp)
    have zX := blk_lt bX
    have zR := blk_lt bR
    have x0 := blk_cell bX 0
    have x1 := blk_cell bX 1
    have x2 := blk_cell bX 2
    have x3 := blk_cell bX 3
    have x4 := blk_cell bX 4
    have x5 := blk_cell bX 5
    have x6 := blk_cell bX 6
    have x7 := blk_cell bX 7
    have x8 := blk_cell bX 8
    have x9 := blk_cell bX 9
    have x10 := blk_cell bX 10
    have x11 := blk_cell bX 11
    have x12 := blk_cell bX 12
    simp only [List.getElem?_toArray, List.getElem?_cons_succ, List.getElem?_cons_zero] at x0 x1 x2 x3 x4 x5 x6 x7 x8 x9 x10 x11 x12
    have xz0 := blk_free bX 0
    have xz1 := blk_free bX 1
    have xz2 := blk_free bX 2
    have xz3 := blk_free bX 3
    have xz4 := blk_free bX 4
    have xz5 := blk_free bX 5
    have xz6 := blk_free bX 6
    have xz7 := blk_free bX 7
    have xz8 := blk_free bX 8
    have xz9 := blk_free bX 9
    have xz10 := blk_free bX 10
    have xz11 := blk_free bX 11
    have xz12 := blk_free bX 12
    have q0 := blk_cell bR 0
    have q1 := blk_cell bR 1
    have q2 := blk_cell bR 2
    have q3 := blk_cell bR 3
    have q4 := blk_cell bR 4
    have q5 := blk_cell bR 5
    have q6 := blk_cell bR 6
    have q7 := blk_cell bR 7
    have q8 := blk_cell bR 8
    have q9 := blk_cell bR 9
    have q10 := blk_cell bR 10
    have q11 := blk_cell bR 11
    have q12 := blk_cell bR 12
    simp only [List.getElem?_toArray, List.getElem?_cons_succ, List.getElem?_cons_zero] at q0 q1 q2 q3 q4 q5 q6 q7 q8 q9 q10 q11 q12
    have qz0 := blk_free bR 0
    have qz1 := blk_free bR 1
    have qz2 := blk_free bR 2
    have qz3 := blk_free bR 3
    have qz4 := blk_free bR 4
    have qz5 := blk_free bR 5
    have qz6 := blk_free bR 6
    have qz7 := blk_free bR 7
    have qz8 := blk_free bR 8
    have qz9 := blk_free bR 9
    have qz10 := blk_free bR 10
    have qz11 := blk_free bR 11
    have qz12 := blk_free bR 12
    clear bX bR g1
    go_wp2_with fail
    refine bodyPost_ret (v := .tuple #[.agg #[.string s, .int .i64 f, .int .i64 t, .int .i64 p, .int .i64 y.w, .int .i64 y.h, .int .i64 y.b, .int .i64 y.s, .int .i64 y.by_, .int .i64 y.pk, .int .i64 y.st, .int .i64 y.r, .int .i64 y.a], .string ⟨#[]⟩, .bool false]) (by simp only [results, Try.results41]; go_simp) rfl ⟨rfl, ?_⟩
    repeat' (first | with_reducible exact G1.out | with_reducible refine gb_al ?_ | with_reducible refine gb_st ?_ (by omega) | with_reducible refine gb_dr ?_ | with_reducible refine gb_dn ?_)
  | true =>
    by_cases n0 : n < 0
    · clear hn
      go_enter Try.func41, Try.ntmps41
      go_wp2_with fail
      refine (hK.out _).mono ?_
      rintro e w1 ⟨rfl, g1⟩
      have G1 := Lib.hid (gb_trans (gb_trans (World.grownBy_alloc _ _ none) (World.grownBy_alloc _ _ none)) g1)
      have bX := old2a g1 (by simp)
      have bR := old2b g1 (by simp)
      have zX := blk_lt bX
      have zR := blk_lt bR
      have x0 := blk_cell bX 0
      have x1 := blk_cell bX 1
      have x2 := blk_cell bX 2
      have x3 := blk_cell bX 3
      have x4 := blk_cell bX 4
      have x5 := blk_cell bX 5
      have x6 := blk_cell bX 6
      have x7 := blk_cell bX 7
      have x8 := blk_cell bX 8
      have x9 := blk_cell bX 9
      have x10 := blk_cell bX 10
      have x11 := blk_cell bX 11
      have x12 := blk_cell bX 12
      simp only [List.getElem?_toArray, List.getElem?_cons_succ, List.getElem?_cons_zero] at x0 x1 x2 x3 x4 x5 x6 x7 x8 x9 x10 x11 x12
      have xz0 := blk_free bX 0
      have xz1 := blk_free bX 1
      have xz2 := blk_free bX 2
      have xz3 := blk_free bX 3
      have xz4 := blk_free bX 4
      have xz5 := blk_free bX 5
      have xz6 := blk_free bX 6
      have xz7 := blk_free bX 7
      have xz8 := blk_free bX 8
      have xz9 := blk_free bX 9
      have xz10 := blk_free bX 10
      have xz11 := blk_free bX 11
      have xz12 := blk_free bX 12
      have q0 := blk_cell bR 0
      have q1 := blk_cell bR 1
      have q2 := blk_cell bR 2
      have q3 := blk_cell bR 3
      have q4 := blk_cell bR 4
      have q5 := blk_cell bR 5
      have q6 := blk_cell bR 6
      have q7 := blk_cell bR 7
      have q8 := blk_cell bR 8
      have q9 := blk_cell bR 9
      have q10 := blk_cell bR 10
      have q11 := blk_cell bR 11
      have q12 := blk_cell bR 12
      simp only [List.getElem?_toArray, List.getElem?_cons_succ, List.getElem?_cons_zero] at q0 q1 q2 q3 q4 q5 q6 q7 q8 q9 q10 q11 q12
      have qz0 := blk_free bR 0
      have qz1 := blk_free bR 1
      have qz2 := blk_free bR 2
      have qz3 := blk_free bR 3
      have qz4 := blk_free bR 4
      have qz5 := blk_free bR 5
      have qz6 := blk_free bR 6
      have qz7 := blk_free bR 7
      have qz8 := blk_free bR 8
      have qz9 := blk_free bR 9
      have qz10 := blk_free bR 10
      have qz11 := blk_free bR 11
      have qz12 := blk_free bR 12
      clear bX bR g1
      go_wp2_with fail
      refine bodyPost_ret (v := .tuple #[.agg #[.string s, .int .i64 f, .int .i64 t, .int .i64 p, .int .i64 y.w, .int .i64 y.h, .int .i64 y.b, .int .i64 y.s, .int .i64 y.by_, .int .i64 y.pk, .int .i64 y.st, .int .i64 y.r, .int .i64 y.a], .string ⟨#[]⟩, .bool false]) (by simp only [results, Try.results41]; go_simp) rfl ⟨rfl, ?_⟩
      repeat' (first | with_reducible exact G1.out | with_reducible refine gb_al ?_ | with_reducible refine gb_st ?_ (by omega) | with_reducible refine gb_dr ?_ | with_reducible refine gb_dn ?_)
    · have n1 : (t : Int) - p < n := by simp [canB] at hn; omega
      clear hn
      go_enter Try.func41, Try.ntmps41
      go_wp2_with fail
      refine (hK.out _).mono ?_
      rintro e w1 ⟨rfl, g1⟩
      have G1 := Lib.hid (gb_trans (gb_trans (World.grownBy_alloc _ _ none) (World.grownBy_alloc _ _ none)) g1)
      have bX := old2a g1 (by simp)
      have bR := old2b g1 (by simp)
      have zX := blk_lt bX
      have zR := blk_lt bR
      have x0 := blk_cell bX 0
      have x1 := blk_cell bX 1
      have x2 := blk_cell bX 2
      have x3 := blk_cell bX 3
      have x4 := blk_cell bX 4
      have x5 := blk_cell bX 5
      have x6 := blk_cell bX 6
      have x7 := blk_cell bX 7
      have x8 := blk_cell bX 8
      have x9 := blk_cell bX 9
      have x10 := blk_cell bX 10
      have x11 := blk_cell bX 11
      have x12 := blk_cell bX 12
      simp only [List.getElem?_toArray, List.getElem?_cons_succ, List.getElem?_cons_zero] at x0 x1 x2 x3 x4 x5 x6 x7 x8 x9 x10 x11 x12
      have xz0 := blk_free bX 0
      have xz1 := blk_free bX 1
      have xz2 := blk_free bX 2
      have xz3 := blk_free bX 3
      have xz4 := blk_free bX 4
      have xz5 := blk_free bX 5
      have xz6 := blk_free bX 6
      have xz7 := blk_free bX 7
      have xz8 := blk_free bX 8
      have xz9 := blk_free bX 9
      have xz10 := blk_free bX 10
      have xz11 := blk_free bX 11
      have xz12 := blk_free bX 12
      have q0 := blk_cell bR 0
      have q1 := blk_cell bR 1
      have q2 := blk_cell bR 2
      have q3 := blk_cell bR 3
      have q4 := blk_cell bR 4
      have q5 := blk_cell bR 5
      have q6 := blk_cell bR 6
      have q7 := blk_cell bR 7
      have q8 := blk_cell bR 8
      have q9 := blk_cell bR 9
      have q10 := blk_cell bR 10
      have q11 := blk_cell bR 11
      have q12 := blk_cell bR 12
      simp only [List.getElem?_toArray, List.getElem?_cons_succ, List.getElem?_cons_zero] at q0 q1 q2 q3 q4 q5 q6 q7 q8 q9 q10 q11 q12
      have qz0 := blk_free bR 0
      have qz1 := blk_free bR 1
      have qz2 := blk_free bR 2
      have qz3 := blk_free bR 3
      have qz4 := blk_free bR 4
      have qz5 := blk_free bR 5
      have qz6 := blk_free bR 6
      have qz7 := blk_free bR 7
      have qz8 := blk_free bR 8
      have qz9 := blk_free bR 9
      have qz10 := blk_free bR 10
      have qz11 := blk_free bR 11
      have qz12 := blk_free bR 12
      clear bX bR g1
      go_wp2_with fail
      refine bodyPost_ret (v := .tuple #[.agg #[.string s, .int .i64 f, .int .i64 t, .int .i64 p, .int .i64 y.w, .int .i64 y.h, .int .i64 y.b, .int .i64 y.s, .int .i64 y.by_, .int .i64 y.pk, .int .i64 y.st, .int .i64 y.r, .int .i64 y.a], .string ⟨#[]⟩, .bool false]) (by simp only [results, Try.results41]; go_simp) rfl ⟨rfl, ?_⟩
      repeat' (first | with_reducible exact G1.out | with_reducible refine gb_al ?_ | with_reducible refine gb_st ?_ (by omega) | with_reducible refine gb_dr ?_ | with_reducible refine gb_dn ?_)

set_option maxRecDepth 100000 in
set_option maxHeartbeats 4000000 in
theorem rread_yes (s : ByteArray) (p f t n : Nat) (x : St) (w : World) (ok : x.Ok) (h1 : p ≤ t) (h2 : t ≤ s.size) (h3 : s.size ≤ 9223372036854775807) (hn : rdB x p t n = true) :
    Calls Try.prog 41 #[.agg (SAc s p f t x), .int .i64 n] w
      fun e w' => e = .returned (.tuple #[.agg (SAc s ((p : Int) + n) f t (x.work 1).1), .string (s.extract p (p + n)), .bool true]) ∧ w.grownBy w' none := by
  have K := fun w => rwork_calls x 1 w ok
  unfold SAc
  unfold St.agg at K
  obtain ⟨y, hy⟩ : ∃ y, (x.work 1).1 = y := ⟨_, rfl⟩
  obtain ⟨r, hr⟩ : ∃ r, (x.work 1).2 = r := ⟨_, rfl⟩
  unfold rdB at hn
  rw [hr] at hn
  rw [hy, hr] at K
  rw [hy]
  have hK := Lib.hid K
  clear K hy hr ok
  rw [Bool.and_eq_true] at hn
  obtain ⟨rfl, hc⟩ := hn
  obtain ⟨n0, n1⟩ := can_of hc
  have hcut := cut_at s p n (by omega)
  obtain ⟨z, hz⟩ : ∃ z, s.extract p (p + n) = z := ⟨_, rfl⟩
  rw [hz] at hcut ⊢
  clear hz hc
  go_enter Try.func41, Try.ntmps41
  go_wp2_with fail
  refine (hK.out _).mono ?_
  rintro e w1 ⟨rfl, g1⟩
  have G1 := Lib.hid (gb_trans (gb_trans (World.grownBy_alloc _ _ none) (World.grownBy_alloc _ _ none)) g1)
  have bX := old2a g1 (by simp)
  have bR := old2b g1 (by simp)
  have zX := blk_lt bX
  have zR := blk_lt bR
  have x0 := blk_cell bX 0
  have x1 := blk_cell bX 1
  have x2 := blk_cell bX 2
  have x3 := blk_cell bX 3
  have x4 := blk_cell bX 4
  have x5 := blk_cell bX 5
  have x6 := blk_cell bX 6
  have x7 := blk_cell bX 7
  have x8 := blk_cell bX 8
  have x9 := blk_cell bX 9
  have x10 := blk_cell bX 10
  have x11 := blk_cell bX 11
  have x12 := blk_cell bX 12
  simp only [List.getElem?_toArray, List.getElem?_cons_succ, List.getElem?_cons_zero] at x0 x1 x2 x3 x4 x5 x6 x7 x8 x9 x10 x11 x12
  have xz0 := blk_free bX 0
  have xz1 := blk_free bX 1
  have xz2 := blk_free bX 2
  have xz3 := blk_free bX 3
  have xz4 := blk_free bX 4
  have xz5 := blk_free bX 5
  have xz6 := blk_free bX 6
  have xz7 := blk_free bX 7
  have xz8 := blk_free bX 8
  have xz9 := blk_free bX 9
  have xz10 := blk_free bX 10
  have xz11 := blk_free bX 11
  have xz12 := blk_free bX 12
  have q0 := blk_cell bR 0
  have q1 := blk_cell bR 1
  have q2 := blk_cell bR 2
  have q3 := blk_cell bR 3
  have q4 := blk_cell bR 4
  have q5 := blk_cell bR 5
  have q6 := blk_cell bR 6
  have q7 := blk_cell bR 7
  have q8 := blk_cell bR 8
  have q9 := blk_cell bR 9
  have q10 := blk_cell bR 10
  have q11 := blk_cell bR 11
  have q12 := blk_cell bR 12
  simp only [List.getElem?_toArray, List.getElem?_cons_succ, List.getElem?_cons_zero] at q0 q1 q2 q3 q4 q5 q6 q7 q8 q9 q10 q11 q12
  have qz0 := blk_free bR 0
  have qz1 := blk_free bR 1
  have qz2 := blk_free bR 2
  have qz3 := blk_free bR 3
  have qz4 := blk_free bR 4
  have qz5 := blk_free bR 5
  have qz6 := blk_free bR 6
  have qz7 := blk_free bR 7
  have qz8 := blk_free bR 8
  have qz9 := blk_free bR 9
  have qz10 := blk_free bR 10
  have qz11 := blk_free bR 11
  have qz12 := blk_free bR 12
  clear bX bR g1
  go_wp2_with fail
  refine bodyPost_ret (v := .tuple #[.agg #[.string s, .int .i64 f, .int .i64 t, .int .i64 ((p : Int) + n), .int .i64 y.w, .int .i64 y.h, .int .i64 y.b, .int .i64 y.s, .int .i64 y.by_, .int .i64 y.pk, .int .i64 y.st, .int .i64 y.r, .int .i64 y.a], .string z, .bool true]) (by simp only [results, Try.results41]; go_simp) rfl ⟨rfl, ?_⟩
  repeat' (first | with_reducible exact G1.out | with_reducible refine gb_al ?_ | with_reducible refine gb_st ?_ (by omega) | with_reducible refine gb_dr ?_ | with_reducible refine gb_dn ?_)

end Go.Proofs.Ytdcmbjhjfdjdhaa.Sr
