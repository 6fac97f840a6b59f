/- Layer 2's document's answers: plain states by value; and the chapter's example. -/
import Derived.Test.YtlliahflnfhgpaaLed5
namespace Go.Proofs.Ytlliahflnfhgpaa.Le
open Go.ChangeShapes Go.WideShapes Go.ChangeAt Go.RowKit
set_option linter.unusedVariables false

def St.agg (x : St) : Value := .agg #[.int .i64 x.w, .int .i64 x.h, .int .i64 x.b, .int .i64 x.s, .int .i64 x.by_, .int .i64 x.pk, .int .i64 x.st, .int .i64 x.r, .int .i64 x.a]

theorem nought_calls (v : Int) (w : World) : Calls Try.prog 23 #[.int .i64 v] w fun e w' => e = .returned (.int .i64 (pos v)) ∧ w = w' := by
  unfold pos
  by_cases h : v < 0
  · rw [if_pos h]
    go_enter Try.func23, Try.ntmps23
    go_wp2
    go_ret
    exact ⟨rfl, rfl⟩
  · rw [if_neg h]
    have h' : 0 ≤ v := by omega
    go_enter Try.func23, Try.ntmps23
    go_wp2
    go_ret
    exact ⟨rfl, rfl⟩

theorem rnew_calls (p q r s : Int) (w : World) :
    Calls Try.prog 7 #[.int .i64 p, .int .i64 q, .int .i64 r, .int .i64 s] w fun e w' => e = .returned (St.new p q r s).agg ∧ w.grownBy w' none := by
  go_enter Try.func7, Try.ntmps7
  go_wp2_with (go_at_call 23; refine (nought_calls _ _).mono ?_; rintro e w' ⟨rfl, rfl⟩)
  refine bodyPost_ret (v := (St.new p q r s).agg) (by simp [results, Try.results7, go_sem, St.new, St.agg]) rfl ⟨rfl, ?_⟩
  exact World.grownBy_alloc _ _ _

/-- A refusal of a state that has none. -/
theorem rrefuse_calls (w h b s y p t ra r a : Int) (W : World) :
    Calls Try.prog 25 #[.agg #[.int .i64 w, .int .i64 h, .int .i64 b, .int .i64 s, .int .i64 y, .int .i64 p, .int .i64 t, .int .i64 0, .int .i64 ra], .int .i64 r, .int .i64 a] W
      fun e W' => e = .returned (.tuple #[.agg #[.int .i64 w, .int .i64 h, .int .i64 b, .int .i64 s, .int .i64 y, .int .i64 p, .int .i64 t, .int .i64 r, .int .i64 a], .bool false]) ∧
        (W.alloc (.cells #[.int .i64 w, .int .i64 h, .int .i64 b, .int .i64 s, .int .i64 y, .int .i64 p, .int .i64 t, .int .i64 r, .int .i64 a] 28)).alloc (.cells #[.int .i64 w, .int .i64 h, .int .i64 b, .int .i64 s, .int .i64 y, .int .i64 p, .int .i64 t, .int .i64 r, .int .i64 a] 28) = W' := by
  go_enter Try.func25, Try.ntmps25
  go_wp2
  refine bodyPost_ret (v := .tuple #[.agg #[.int .i64 w, .int .i64 h, .int .i64 b, .int .i64 s, .int .i64 y, .int .i64 p, .int .i64 t, .int .i64 r, .int .i64 a], .bool false]) (by simp [results, Try.results25, go_sem]) rfl ⟨rfl, rfl⟩

theorem rtake_no (w h b s y p t ra n : Int) (W : World) (y0 : 0 ≤ y) (yb : y ≤ b) (b1 : b ≤ 9223372036854775807) (hn : n < 0 ∨ b - y < n) :
    Calls Try.prog 12 #[.agg #[.int .i64 w, .int .i64 h, .int .i64 b, .int .i64 s, .int .i64 y, .int .i64 p, .int .i64 t, .int .i64 0, .int .i64 ra], .int .i64 n] W
      fun e W' => e = .returned (.tuple #[.agg #[.int .i64 w, .int .i64 h, .int .i64 b, .int .i64 s, .int .i64 y, .int .i64 p, .int .i64 t, .int .i64 2, .int .i64 n], .bool false]) ∧ W.grownBy W' none := by
  by_cases h1 : n < 0
  · clear hn
    go_enter Try.func12, Try.ntmps12
    go_wp2_with (go_at_call 25; refine (rrefuse_calls _ _ _ _ _ _ _ _ _ _ _).mono ?_; rintro e W' ⟨rfl, rfl⟩)
    refine bodyPost_ret (v := .tuple #[.agg #[.int .i64 w, .int .i64 h, .int .i64 b, .int .i64 s, .int .i64 y, .int .i64 p, .int .i64 t, .int .i64 2, .int .i64 n], .bool false]) (by simp [results, Try.results12, go_sem]) rfl ⟨rfl, ?_⟩
    exact gb_trans (gb_trans (gb_trans (World.grownBy_alloc _ _ _) (World.grownBy_alloc _ _ _)) (World.grownBy_alloc _ _ _)) (World.grownBy_alloc _ _ _)
  · have h2 : b - y < n := by omega
    have h3 : 0 ≤ n := by omega
    clear hn h1
    go_enter Try.func12, Try.ntmps12
    go_wp2_with (go_at_call 25; refine (rrefuse_calls _ _ _ _ _ _ _ _ _ _ _).mono ?_; rintro e W' ⟨rfl, rfl⟩)
    refine bodyPost_ret (v := .tuple #[.agg #[.int .i64 w, .int .i64 h, .int .i64 b, .int .i64 s, .int .i64 y, .int .i64 p, .int .i64 t, .int .i64 2, .int .i64 n], .bool false]) (by simp [results, Try.results12, go_sem]) rfl ⟨rfl, ?_⟩
    exact gb_trans (gb_trans (gb_trans (World.grownBy_alloc _ _ _) (World.grownBy_alloc _ _ _)) (World.grownBy_alloc _ _ _)) (World.grownBy_alloc _ _ _)

theorem rtake_yes (w h b s y p t ra n : Int) (W : World) (y0 : 0 ≤ y) (yb : y ≤ b) (b1 : b ≤ 9223372036854775807) (n0 : 0 ≤ n) (hn : n ≤ b - y) :
    Calls Try.prog 12 #[.agg #[.int .i64 w, .int .i64 h, .int .i64 b, .int .i64 s, .int .i64 y, .int .i64 p, .int .i64 t, .int .i64 0, .int .i64 ra], .int .i64 n] W
      fun e W' => e = .returned (.tuple #[.agg #[.int .i64 w, .int .i64 h, .int .i64 b, .int .i64 s, .int .i64 (y + n), .int .i64 (up p (y + n)), .int .i64 t, .int .i64 0, .int .i64 ra], .bool true]) ∧ W.grownBy W' none := by
  by_cases h1 : y + n ≤ p
  · have hu : up p (y + n) = p := by simp [up, h1]
    rw [hu]
    clear hu
    go_enter Try.func12, Try.ntmps12
    go_wp2
    refine bodyPost_ret (v := .tuple #[.agg #[.int .i64 w, .int .i64 h, .int .i64 b, .int .i64 s, .int .i64 (y + n), .int .i64 p, .int .i64 t, .int .i64 0, .int .i64 ra], .bool true]) (by simp [results, Try.results12, go_sem]) rfl ⟨rfl, ?_⟩
    exact gb_trans (World.grownBy_alloc _ _ _) (World.grownBy_alloc _ _ _)
  · have hu : up p (y + n) = y + n := by simp [up, h1]
    rw [hu]
    have h2 : p < y + n := by omega
    clear hu h1
    go_enter Try.func12, Try.ntmps12
    go_wp2
    refine bodyPost_ret (v := .tuple #[.agg #[.int .i64 w, .int .i64 h, .int .i64 b, .int .i64 s, .int .i64 (y + n), .int .i64 (y + n), .int .i64 t, .int .i64 0, .int .i64 ra], .bool true]) (by simp [results, Try.results12, go_sem]) rfl ⟨rfl, ?_⟩
    exact gb_trans (World.grownBy_alloc _ _ _) (World.grownBy_alloc _ _ _)

theorem rtake_broken (w h b s y p t r ra n : Int) (W : World) (hr : (r != 0) = true) :
    Calls Try.prog 12 #[.agg #[.int .i64 w, .int .i64 h, .int .i64 b, .int .i64 s, .int .i64 y, .int .i64 p, .int .i64 t, .int .i64 r, .int .i64 ra], .int .i64 n] W
      fun e W' => e = .returned (.tuple #[.agg #[.int .i64 w, .int .i64 h, .int .i64 b, .int .i64 s, .int .i64 y, .int .i64 p, .int .i64 t, .int .i64 r, .int .i64 ra], .bool false]) ∧ W.grownBy W' none := by
  go_enter Try.func12, Try.ntmps12
  go_wp2
  refine bodyPost_ret (v := .tuple #[.agg #[.int .i64 w, .int .i64 h, .int .i64 b, .int .i64 s, .int .i64 y, .int .i64 p, .int .i64 t, .int .i64 r, .int .i64 ra], .bool false]) (by simp [results, Try.results12, go_sem]) rfl ⟨rfl, ?_⟩
  exact gb_trans (World.grownBy_alloc _ _ _) (World.grownBy_alloc _ _ _)

theorem rtake_calls (x : St) (n : Int) (w : World) (ok : x.Ok) :
    Calls Try.prog 12 #[x.agg, .int .i64 n] w fun e w' => e = .returned (.tuple #[(x.take n).1.agg, .bool (x.take n).2]) ∧ w.grownBy w' none := by
  obtain ⟨xw, xh, xb, xs, xy, xp, xt, xr, xa⟩ := x
  unfold St.take
  by_cases hr : xr = 0
  · subst hr
    rw [if_neg (by simp)]
    have y0 := ok.y0
    have yb := Int.le_trans ok.yp ok.pb
    have b1 := ok.b1
    simp only at y0 yb b1
    by_cases hn : n < 0 ∨ xb - xy < n
    · rw [if_pos hn]; exact rtake_no _ _ _ _ _ _ _ _ _ _ y0 yb b1 hn
    · rw [if_neg hn]; exact rtake_yes xw xh xb xs xy xp xt xa n w y0 yb b1 (by omega) (by omega)
  · rw [if_pos hr]; exact rtake_broken _ _ _ _ _ _ _ _ _ _ _ (by simpa using hr)

theorem rwork_no (w h b s y p t ra n : Int) (W : World) (y0 : 0 ≤ t) (yb : t ≤ s) (b1 : s ≤ 9223372036854775807) (hn : n < 0 ∨ s - t < n) :
    Calls Try.prog 16 #[.agg #[.int .i64 w, .int .i64 h, .int .i64 b, .int .i64 s, .int .i64 y, .int .i64 p, .int .i64 t, .int .i64 0, .int .i64 ra], .int .i64 n] W
      fun e W' => e = .returned (.tuple #[.agg #[.int .i64 w, .int .i64 h, .int .i64 b, .int .i64 s, .int .i64 y, .int .i64 p, .int .i64 t, .int .i64 3, .int .i64 n], .bool false]) ∧ W.grownBy W' none := by
  by_cases h1 : n < 0
  · clear hn
    go_enter Try.func16, Try.ntmps16
    go_wp2_with (go_at_call 25; refine (rrefuse_calls _ _ _ _ _ _ _ _ _ _ _).mono ?_; rintro e W' ⟨rfl, rfl⟩)
    refine bodyPost_ret (v := .tuple #[.agg #[.int .i64 w, .int .i64 h, .int .i64 b, .int .i64 s, .int .i64 y, .int .i64 p, .int .i64 t, .int .i64 3, .int .i64 n], .bool false]) (by simp [results, Try.results16, go_sem]) rfl ⟨rfl, ?_⟩
    exact gb_trans (gb_trans (gb_trans (World.grownBy_alloc _ _ _) (World.grownBy_alloc _ _ _)) (World.grownBy_alloc _ _ _)) (World.grownBy_alloc _ _ _)
  · have h2 : s - t < n := by omega
    have h3 : 0 ≤ n := by omega
    clear hn h1
    go_enter Try.func16, Try.ntmps16
    go_wp2_with (go_at_call 25; refine (rrefuse_calls _ _ _ _ _ _ _ _ _ _ _).mono ?_; rintro e W' ⟨rfl, rfl⟩)
    refine bodyPost_ret (v := .tuple #[.agg #[.int .i64 w, .int .i64 h, .int .i64 b, .int .i64 s, .int .i64 y, .int .i64 p, .int .i64 t, .int .i64 3, .int .i64 n], .bool false]) (by simp [results, Try.results16, go_sem]) rfl ⟨rfl, ?_⟩
    exact gb_trans (gb_trans (gb_trans (World.grownBy_alloc _ _ _) (World.grownBy_alloc _ _ _)) (World.grownBy_alloc _ _ _)) (World.grownBy_alloc _ _ _)

theorem rwork_yes (w h b s y p t ra n : Int) (W : World) (y0 : 0 ≤ t) (yb : t ≤ s) (b1 : s ≤ 9223372036854775807) (n0 : 0 ≤ n) (hn : n ≤ s - t) :
    Calls Try.prog 16 #[.agg #[.int .i64 w, .int .i64 h, .int .i64 b, .int .i64 s, .int .i64 y, .int .i64 p, .int .i64 t, .int .i64 0, .int .i64 ra], .int .i64 n] W
      fun e W' => e = .returned (.tuple #[.agg #[.int .i64 w, .int .i64 h, .int .i64 b, .int .i64 s, .int .i64 y, .int .i64 p, .int .i64 (t + n), .int .i64 0, .int .i64 ra], .bool true]) ∧ W.grownBy W' none := by
  go_enter Try.func16, Try.ntmps16
  go_wp2
  refine bodyPost_ret (v := .tuple #[.agg #[.int .i64 w, .int .i64 h, .int .i64 b, .int .i64 s, .int .i64 y, .int .i64 p, .int .i64 (t + n), .int .i64 0, .int .i64 ra], .bool true]) (by simp [results, Try.results16, go_sem]) rfl ⟨rfl, ?_⟩
  exact gb_trans (World.grownBy_alloc _ _ _) (World.grownBy_alloc _ _ _)

theorem rwork_broken (w h b s y p t r ra n : Int) (W : World) (hr : (r != 0) = true) :
    Calls Try.prog 16 #[.agg #[.int .i64 w, .int .i64 h, .int .i64 b, .int .i64 s, .int .i64 y, .int .i64 p, .int .i64 t, .int .i64 r, .int .i64 ra], .int .i64 n] W
      fun e W' => e = .returned (.tuple #[.agg #[.int .i64 w, .int .i64 h, .int .i64 b, .int .i64 s, .int .i64 y, .int .i64 p, .int .i64 t, .int .i64 r, .int .i64 ra], .bool false]) ∧ W.grownBy W' none := by
  go_enter Try.func16, Try.ntmps16
  go_wp2
  refine bodyPost_ret (v := .tuple #[.agg #[.int .i64 w, .int .i64 h, .int .i64 b, .int .i64 s, .int .i64 y, .int .i64 p, .int .i64 t, .int .i64 r, .int .i64 ra], .bool false]) (by simp [results, Try.results16, go_sem]) rfl ⟨rfl, ?_⟩
  exact gb_trans (World.grownBy_alloc _ _ _) (World.grownBy_alloc _ _ _)

theorem rwork_calls (x : St) (n : Int) (w : World) (ok : x.Ok) :
    Calls Try.prog 16 #[x.agg, .int .i64 n] w fun e w' => e = .returned (.tuple #[(x.work n).1.agg, .bool (x.work n).2]) ∧ w.grownBy w' none := by
  obtain ⟨xw, xh, xb, xs, xy, xp, xt, xr, xa⟩ := x
  unfold St.work
  by_cases hr : xr = 0
  · subst hr
    rw [if_neg (by simp)]
    have y0 := ok.t0
    have yb := ok.ts
    have b1 := ok.s1
    simp only at y0 yb b1
    by_cases hn : n < 0 ∨ xs - xt < n
    · rw [if_pos hn]; exact rwork_no _ _ _ _ _ _ _ _ _ _ y0 yb b1 hn
    · rw [if_neg hn]; exact rwork_yes xw xh xb xs xy xp xt xa n w y0 yb b1 (by omega) (by omega)
  · rw [if_pos hr]; exact rwork_broken _ _ _ _ _ _ _ _ _ _ _ (by simpa using hr)

theorem rgive_no (w h b s y p t r ra n : Int) (W : World) (hn : n < 0 ∨ y < n) :
    Calls Try.prog 14 #[.agg #[.int .i64 w, .int .i64 h, .int .i64 b, .int .i64 s, .int .i64 y, .int .i64 p, .int .i64 t, .int .i64 r, .int .i64 ra], .int .i64 n] W
      fun e W' => e = .returned (.tuple #[.agg #[.int .i64 w, .int .i64 h, .int .i64 b, .int .i64 s, .int .i64 y, .int .i64 p, .int .i64 t, .int .i64 r, .int .i64 ra], .bool false]) ∧ W.grownBy W' none := by
  by_cases h1 : n < 0
  · clear hn
    go_enter Try.func14, Try.ntmps14
    go_wp2
    refine bodyPost_ret (v := .tuple #[.agg #[.int .i64 w, .int .i64 h, .int .i64 b, .int .i64 s, .int .i64 y, .int .i64 p, .int .i64 t, .int .i64 r, .int .i64 ra], .bool false]) (by simp [results, Try.results14, go_sem]) rfl ⟨rfl, ?_⟩
    exact gb_trans (World.grownBy_alloc _ _ _) (World.grownBy_alloc _ _ _)
  · have h2 : y < n := by omega
    have h3 : 0 ≤ n := by omega
    clear hn h1
    go_enter Try.func14, Try.ntmps14
    go_wp2
    refine bodyPost_ret (v := .tuple #[.agg #[.int .i64 w, .int .i64 h, .int .i64 b, .int .i64 s, .int .i64 y, .int .i64 p, .int .i64 t, .int .i64 r, .int .i64 ra], .bool false]) (by simp [results, Try.results14, go_sem]) rfl ⟨rfl, ?_⟩
    exact gb_trans (World.grownBy_alloc _ _ _) (World.grownBy_alloc _ _ _)

theorem rgive_yes (w h b s y p t r ra n : Int) (W : World) (n0 : 0 ≤ n) (hn : n ≤ y) (y1 : y ≤ 9223372036854775807) :
    Calls Try.prog 14 #[.agg #[.int .i64 w, .int .i64 h, .int .i64 b, .int .i64 s, .int .i64 y, .int .i64 p, .int .i64 t, .int .i64 r, .int .i64 ra], .int .i64 n] W
      fun e W' => e = .returned (.tuple #[.agg #[.int .i64 w, .int .i64 h, .int .i64 b, .int .i64 s, .int .i64 (y - n), .int .i64 p, .int .i64 t, .int .i64 r, .int .i64 ra], .bool true]) ∧ W.grownBy W' none := by
  go_enter Try.func14, Try.ntmps14
  go_wp2
  refine bodyPost_ret (v := .tuple #[.agg #[.int .i64 w, .int .i64 h, .int .i64 b, .int .i64 s, .int .i64 (y - n), .int .i64 p, .int .i64 t, .int .i64 r, .int .i64 ra], .bool true]) (by simp [results, Try.results14, go_sem]) rfl ⟨rfl, ?_⟩
  exact gb_trans (World.grownBy_alloc _ _ _) (World.grownBy_alloc _ _ _)

theorem rgive_calls (x : St) (n : Int) (w : World) (ok : x.Ok) :
    Calls Try.prog 14 #[x.agg, .int .i64 n] w fun e w' => e = .returned (.tuple #[(x.give n).1.agg, .bool (x.give n).2]) ∧ w.grownBy w' none := by
  obtain ⟨xw, xh, xb, xs, xy, xp, xt, xr, xa⟩ := x
  unfold St.give
  have y1 := Int.le_trans (Int.le_trans ok.yp ok.pb) ok.b1
  simp only at y1
  by_cases hn : n < 0 ∨ xy < n
  · rw [if_pos hn]; exact rgive_no _ _ _ _ _ _ _ _ _ _ _ hn
  · rw [if_neg hn]; exact rgive_yes xw xh xb xs xy xp xt xr xa n w (by omega) (by omega) y1

theorem rsides_w (w h b s y p t ra n m : Int) (W : World) (hn : n < 1 ∨ w < n) :
    Calls Try.prog 10 #[.agg #[.int .i64 w, .int .i64 h, .int .i64 b, .int .i64 s, .int .i64 y, .int .i64 p, .int .i64 t, .int .i64 0, .int .i64 ra], .int .i64 n, .int .i64 m] W
      fun e W' => e = .returned (.tuple #[.agg #[.int .i64 w, .int .i64 h, .int .i64 b, .int .i64 s, .int .i64 y, .int .i64 p, .int .i64 t, .int .i64 1, .int .i64 n], .bool false]) ∧ W.grownBy W' none := by
  by_cases h1 : n < 1
  · clear hn
    go_enter Try.func10, Try.ntmps10
    go_wp2_with (go_at_call 25; refine (rrefuse_calls _ _ _ _ _ _ _ _ _ _ _).mono ?_; rintro e W' ⟨rfl, rfl⟩)
    refine bodyPost_ret (v := .tuple #[.agg #[.int .i64 w, .int .i64 h, .int .i64 b, .int .i64 s, .int .i64 y, .int .i64 p, .int .i64 t, .int .i64 1, .int .i64 n], .bool false]) (by simp [results, Try.results10, go_sem]) rfl ⟨rfl, ?_⟩
    exact gb_trans (gb_trans (gb_trans (World.grownBy_alloc _ _ _) (World.grownBy_alloc _ _ _)) (World.grownBy_alloc _ _ _)) (World.grownBy_alloc _ _ _)
  · have h2 : w < n := by omega
    have h3 : 1 ≤ n := by omega
    clear hn h1
    go_enter Try.func10, Try.ntmps10
    go_wp2_with (go_at_call 25; refine (rrefuse_calls _ _ _ _ _ _ _ _ _ _ _).mono ?_; rintro e W' ⟨rfl, rfl⟩)
    refine bodyPost_ret (v := .tuple #[.agg #[.int .i64 w, .int .i64 h, .int .i64 b, .int .i64 s, .int .i64 y, .int .i64 p, .int .i64 t, .int .i64 1, .int .i64 n], .bool false]) (by simp [results, Try.results10, go_sem]) rfl ⟨rfl, ?_⟩
    exact gb_trans (gb_trans (gb_trans (World.grownBy_alloc _ _ _) (World.grownBy_alloc _ _ _)) (World.grownBy_alloc _ _ _)) (World.grownBy_alloc _ _ _)

theorem rsides_h (w h b s y p t ra n m : Int) (W : World) (n1 : 1 ≤ n) (nw : n ≤ w) (hn : m < 1 ∨ h < m) :
    Calls Try.prog 10 #[.agg #[.int .i64 w, .int .i64 h, .int .i64 b, .int .i64 s, .int .i64 y, .int .i64 p, .int .i64 t, .int .i64 0, .int .i64 ra], .int .i64 n, .int .i64 m] W
      fun e W' => e = .returned (.tuple #[.agg #[.int .i64 w, .int .i64 h, .int .i64 b, .int .i64 s, .int .i64 y, .int .i64 p, .int .i64 t, .int .i64 1, .int .i64 m], .bool false]) ∧ W.grownBy W' none := by
  by_cases h1 : m < 1
  · clear hn
    go_enter Try.func10, Try.ntmps10
    go_wp2_with (go_at_call 25; refine (rrefuse_calls _ _ _ _ _ _ _ _ _ _ _).mono ?_; rintro e W' ⟨rfl, rfl⟩)
    refine bodyPost_ret (v := .tuple #[.agg #[.int .i64 w, .int .i64 h, .int .i64 b, .int .i64 s, .int .i64 y, .int .i64 p, .int .i64 t, .int .i64 1, .int .i64 m], .bool false]) (by simp [results, Try.results10, go_sem]) rfl ⟨rfl, ?_⟩
    exact gb_trans (gb_trans (gb_trans (World.grownBy_alloc _ _ _) (World.grownBy_alloc _ _ _)) (World.grownBy_alloc _ _ _)) (World.grownBy_alloc _ _ _)
  · have h2 : h < m := by omega
    have h3 : 1 ≤ m := by omega
    clear hn h1
    go_enter Try.func10, Try.ntmps10
    go_wp2_with (go_at_call 25; refine (rrefuse_calls _ _ _ _ _ _ _ _ _ _ _).mono ?_; rintro e W' ⟨rfl, rfl⟩)
    refine bodyPost_ret (v := .tuple #[.agg #[.int .i64 w, .int .i64 h, .int .i64 b, .int .i64 s, .int .i64 y, .int .i64 p, .int .i64 t, .int .i64 1, .int .i64 m], .bool false]) (by simp [results, Try.results10, go_sem]) rfl ⟨rfl, ?_⟩
    exact gb_trans (gb_trans (gb_trans (World.grownBy_alloc _ _ _) (World.grownBy_alloc _ _ _)) (World.grownBy_alloc _ _ _)) (World.grownBy_alloc _ _ _)

theorem rsides_yes (w h b s y p t ra n m : Int) (W : World) (n1 : 1 ≤ n) (nw : n ≤ w) (m1 : 1 ≤ m) (mh : m ≤ h) :
    Calls Try.prog 10 #[.agg #[.int .i64 w, .int .i64 h, .int .i64 b, .int .i64 s, .int .i64 y, .int .i64 p, .int .i64 t, .int .i64 0, .int .i64 ra], .int .i64 n, .int .i64 m] W
      fun e W' => e = .returned (.tuple #[.agg #[.int .i64 w, .int .i64 h, .int .i64 b, .int .i64 s, .int .i64 y, .int .i64 p, .int .i64 t, .int .i64 0, .int .i64 ra], .bool true]) ∧ W.grownBy W' none := by
  go_enter Try.func10, Try.ntmps10
  go_wp2
  refine bodyPost_ret (v := .tuple #[.agg #[.int .i64 w, .int .i64 h, .int .i64 b, .int .i64 s, .int .i64 y, .int .i64 p, .int .i64 t, .int .i64 0, .int .i64 ra], .bool true]) (by simp [results, Try.results10, go_sem]) rfl ⟨rfl, ?_⟩
  exact gb_trans (World.grownBy_alloc _ _ _) (World.grownBy_alloc _ _ _)

theorem rsides_broken (w h b s y p t r ra n m : Int) (W : World) (hr : (r != 0) = true) :
    Calls Try.prog 10 #[.agg #[.int .i64 w, .int .i64 h, .int .i64 b, .int .i64 s, .int .i64 y, .int .i64 p, .int .i64 t, .int .i64 r, .int .i64 ra], .int .i64 n, .int .i64 m] W
      fun e W' => e = .returned (.tuple #[.agg #[.int .i64 w, .int .i64 h, .int .i64 b, .int .i64 s, .int .i64 y, .int .i64 p, .int .i64 t, .int .i64 r, .int .i64 ra], .bool false]) ∧ W.grownBy W' none := by
  go_enter Try.func10, Try.ntmps10
  go_wp2
  refine bodyPost_ret (v := .tuple #[.agg #[.int .i64 w, .int .i64 h, .int .i64 b, .int .i64 s, .int .i64 y, .int .i64 p, .int .i64 t, .int .i64 r, .int .i64 ra], .bool false]) (by simp [results, Try.results10, go_sem]) rfl ⟨rfl, ?_⟩
  exact gb_trans (World.grownBy_alloc _ _ _) (World.grownBy_alloc _ _ _)

theorem rsides_calls (x : St) (n m : Int) (w : World) :
    Calls Try.prog 10 #[x.agg, .int .i64 n, .int .i64 m] w fun e w' => e = .returned (.tuple #[(x.sides n m).1.agg, .bool (x.sides n m).2]) ∧ w.grownBy w' none := by
  obtain ⟨xw, xh, xb, xs, xy, xp, xt, xr, xa⟩ := x
  unfold St.sides
  by_cases hr : xr = 0
  · subst hr
    rw [if_neg (by simp)]
    by_cases hn : n < 1 ∨ xw < n
    · rw [if_pos hn]; exact rsides_w _ _ _ _ _ _ _ _ _ _ _ hn
    · rw [if_neg hn]
      by_cases hm : m < 1 ∨ xh < m
      · rw [if_pos hm]; exact rsides_h xw xh xb xs xy xp xt xa n m w (by omega) (by omega) hm
      · rw [if_neg hm]; exact rsides_yes xw xh xb xs xy xp xt xa n m w (by omega) (by omega) (by omega) (by omega)
  · rw [if_pos hr]; exact rsides_broken _ _ _ _ _ _ _ _ _ _ _ _ (by simpa using hr)

end Go.Proofs.Ytlliahflnfhgpaa.Le
