/- Layer 2's document's answers: plain states by value; and the chapter's example. -/
import Derived.Test.YtdcmbjhjfdjdhaaLed5
namespace Go.Proofs.Ytdcmbjhjfdjdhaa.Le
open Go.ChangeShapes Go.WideShapes Go.ChangeAt Go.RowKit
set_option linter.unusedVariables false

def St.agg (x : St) : Value := .agg #[.int .i64 x.w, .int .i64 x.h, .int .i64 x.b, .int .i64 x.s, .int .i64 x.by_, .int .i64 x.pk, .int .i64 x.st, .int .i64 x.r, .int .i64 x.a]

theorem nought_calls (v : Int) (w : World) : Calls Try.prog 39 #[.int .i64 v] w fun e w' => e = .returned (.int .i64 (pos v)) ∧ w = w' := by
  unfold pos
  by_cases h : v < 0
  · rw [if_pos h]
    go_enter Try.func39, Try.ntmps39
    go_wp2
    go_ret
    exact ⟨rfl, rfl⟩
  · rw [if_neg h]
    have h' : 0 ≤ v := by omega
    go_enter Try.func39, Try.ntmps39
    go_wp2
    go_ret
    exact ⟨rfl, rfl⟩

theorem rnew_calls (p q r s : Int) (w : World) :
    Calls Try.prog 12 #[.int .i64 p, .int .i64 q, .int .i64 r, .int .i64 s] w fun e w' => e = .returned (St.new p q r s).agg ∧ w.grownBy w' none := by
  go_enter Try.func12, Try.ntmps12
  go_wp2_with (go_at_call 39; refine (nought_calls _ _).mono ?_; rintro e w' ⟨rfl, rfl⟩)
  refine bodyPost_ret (v := (St.new p q r s).agg) (by simp [results, Try.results12, go_sem, St.new, St.agg]) rfl ⟨rfl, ?_⟩
  exact World.grownBy_alloc _ _ _

/-- A refusal of a state that has none. -/
theorem rrefuse_calls (w h b s y p t ra r a : Int) (W : World) :
    Calls Try.prog 61 #[.agg #[.int .i64 w, .int .i64 h, .int .i64 b, .int .i64 s, .int .i64 y, .int .i64 p, .int .i64 t, .int .i64 0, .int .i64 ra], .int .i64 r, .int .i64 a] W
      fun e W' => e = .returned (.tuple #[.agg #[.int .i64 w, .int .i64 h, .int .i64 b, .int .i64 s, .int .i64 y, .int .i64 p, .int .i64 t, .int .i64 r, .int .i64 a], .bool false]) ∧
        (W.alloc (.cells #[.int .i64 w, .int .i64 h, .int .i64 b, .int .i64 s, .int .i64 y, .int .i64 p, .int .i64 t, .int .i64 r, .int .i64 a] 34)).alloc (.cells #[.int .i64 w, .int .i64 h, .int .i64 b, .int .i64 s, .int .i64 y, .int .i64 p, .int .i64 t, .int .i64 r, .int .i64 a] 34) = W' := by
  go_enter Try.func61, Try.ntmps61
  go_wp2
  refine bodyPost_ret (v := .tuple #[.agg #[.int .i64 w, .int .i64 h, .int .i64 b, .int .i64 s, .int .i64 y, .int .i64 p, .int .i64 t, .int .i64 r, .int .i64 a], .bool false]) (by simp [results, Try.results61, go_sem]) rfl ⟨rfl, rfl⟩

theorem rwork_no (w h b s y p t ra n : Int) (W : World) (y0 : 0 ≤ t) (yb : t ≤ s) (b1 : s ≤ 9223372036854775807) (hn : n < 0 ∨ s - t < n) :
    Calls Try.prog 56 #[.agg #[.int .i64 w, .int .i64 h, .int .i64 b, .int .i64 s, .int .i64 y, .int .i64 p, .int .i64 t, .int .i64 0, .int .i64 ra], .int .i64 n] W
      fun e W' => e = .returned (.tuple #[.agg #[.int .i64 w, .int .i64 h, .int .i64 b, .int .i64 s, .int .i64 y, .int .i64 p, .int .i64 t, .int .i64 3, .int .i64 n], .bool false]) ∧ W.grownBy W' none := by
  by_cases h1 : n < 0
  · clear hn
    go_enter Try.func56, Try.ntmps56
    go_wp2_with (go_at_call 61; refine (rrefuse_calls _ _ _ _ _ _ _ _ _ _ _).mono ?_; rintro e W' ⟨rfl, rfl⟩)
    refine bodyPost_ret (v := .tuple #[.agg #[.int .i64 w, .int .i64 h, .int .i64 b, .int .i64 s, .int .i64 y, .int .i64 p, .int .i64 t, .int .i64 3, .int .i64 n], .bool false]) (by simp [results, Try.results56, go_sem]) rfl ⟨rfl, ?_⟩
    exact gb_trans (gb_trans (gb_trans (World.grownBy_alloc _ _ _) (World.grownBy_alloc _ _ _)) (World.grownBy_alloc _ _ _)) (World.grownBy_alloc _ _ _)
  · have h2 : s - t < n := by omega
    have h3 : 0 ≤ n := by omega
    clear hn h1
    go_enter Try.func56, Try.ntmps56
    go_wp2_with (go_at_call 61; refine (rrefuse_calls _ _ _ _ _ _ _ _ _ _ _).mono ?_; rintro e W' ⟨rfl, rfl⟩)
    refine bodyPost_ret (v := .tuple #[.agg #[.int .i64 w, .int .i64 h, .int .i64 b, .int .i64 s, .int .i64 y, .int .i64 p, .int .i64 t, .int .i64 3, .int .i64 n], .bool false]) (by simp [results, Try.results56, go_sem]) rfl ⟨rfl, ?_⟩
    exact gb_trans (gb_trans (gb_trans (World.grownBy_alloc _ _ _) (World.grownBy_alloc _ _ _)) (World.grownBy_alloc _ _ _)) (World.grownBy_alloc _ _ _)

theorem rwork_yes (w h b s y p t ra n : Int) (W : World) (y0 : 0 ≤ t) (yb : t ≤ s) (b1 : s ≤ 9223372036854775807) (n0 : 0 ≤ n) (hn : n ≤ s - t) :
    Calls Try.prog 56 #[.agg #[.int .i64 w, .int .i64 h, .int .i64 b, .int .i64 s, .int .i64 y, .int .i64 p, .int .i64 t, .int .i64 0, .int .i64 ra], .int .i64 n] W
      fun e W' => e = .returned (.tuple #[.agg #[.int .i64 w, .int .i64 h, .int .i64 b, .int .i64 s, .int .i64 y, .int .i64 p, .int .i64 (t + n), .int .i64 0, .int .i64 ra], .bool true]) ∧ W.grownBy W' none := by
  go_enter Try.func56, Try.ntmps56
  go_wp2
  refine bodyPost_ret (v := .tuple #[.agg #[.int .i64 w, .int .i64 h, .int .i64 b, .int .i64 s, .int .i64 y, .int .i64 p, .int .i64 (t + n), .int .i64 0, .int .i64 ra], .bool true]) (by simp [results, Try.results56, go_sem]) rfl ⟨rfl, ?_⟩
  exact gb_trans (World.grownBy_alloc _ _ _) (World.grownBy_alloc _ _ _)

theorem rwork_broken (w h b s y p t r ra n : Int) (W : World) (hr : (r != 0) = true) :
    Calls Try.prog 56 #[.agg #[.int .i64 w, .int .i64 h, .int .i64 b, .int .i64 s, .int .i64 y, .int .i64 p, .int .i64 t, .int .i64 r, .int .i64 ra], .int .i64 n] W
      fun e W' => e = .returned (.tuple #[.agg #[.int .i64 w, .int .i64 h, .int .i64 b, .int .i64 s, .int .i64 y, .int .i64 p, .int .i64 t, .int .i64 r, .int .i64 ra], .bool false]) ∧ W.grownBy W' none := by
  go_enter Try.func56, Try.ntmps56
  go_wp2
  refine bodyPost_ret (v := .tuple #[.agg #[.int .i64 w, .int .i64 h, .int .i64 b, .int .i64 s, .int .i64 y, .int .i64 p, .int .i64 t, .int .i64 r, .int .i64 ra], .bool false]) (by simp [results, Try.results56, go_sem]) rfl ⟨rfl, ?_⟩
  exact gb_trans (World.grownBy_alloc _ _ _) (World.grownBy_alloc _ _ _)

theorem rwork_calls (x : St) (n : Int) (w : World) (ok : x.Ok) :
    Calls Try.prog 56 #[x.agg, .int .i64 n] w fun e w' => e = .returned (.tuple #[(x.work n).1.agg, .bool (x.work n).2]) ∧ w.grownBy w' none := by
  obtain ⟨xw, xh, xb, xs, xy, xp, xt, xr, xa⟩ := x
  unfold St.work
  by_cases hr : xr = 0
  · subst hr
    rw [if_neg (by simp)]
    have y0 := ok.t0
    have yb := ok.ts
    have b1 := ok.s1
    simp only at y0 yb b1
    by_cases hn : n < 0 ∨ xs - xt < n
    · rw [if_pos hn]; exact rwork_no _ _ _ _ _ _ _ _ _ _ y0 yb b1 hn
    · rw [if_neg hn]; exact rwork_yes xw xh xb xs xy xp xt xa n w y0 yb b1 (by omega) (by omega)
  · rw [if_pos hr]; exact rwork_broken _ _ _ _ _ _ _ _ _ _ _ (by simpa using hr)

end Go.Proofs.Ytdcmbjhjfdjdhaa.Le
