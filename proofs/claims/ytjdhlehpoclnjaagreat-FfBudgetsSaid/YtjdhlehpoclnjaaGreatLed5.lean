/- Package ledger: giving back, sides, the first refusal told, the budget, a new ledger. -/
import Derived.Test.YtjdhlehpoclnjaaGreatLed4
namespace Go.Proofs.YtjdhlehpoclnjaaGreat.Le
open Go.ChangeShapes Go.WideShapes Go.ChangeAt Go.RowKit
set_option linter.unusedVariables false

theorem give_calls (b : Nat) (x : St) (n : Int) (w : World) (h : Led b x.ls w) (ok : x.Ok) :
    Calls Tryz.prog 101 #[.pointer (some ⟨b, 0, none⟩), .int .i64 n] w
      fun e w' => e = .returned (.bool (x.give n).2) ∧ Led b (x.give n).1.ls w' ∧ w.grownBy w' (some b) := by
  have c4 := (h.c 4).trans (show x.ls.cells[4]? = some (.int .i64 x.by_) by simp [LS.cells, St.ls])
  have K1 := Lib.hid (load64 ⟨b, 4, none⟩ x.by_ w c4 rfl)
  have K2 := Lib.hid (cas64 ⟨b, 4, none⟩ x.by_ (x.by_ - n) w c4 (h.free 4) rfl)
  have y0 := ok.y0
  have y1 := Int.le_trans (Int.le_trans ok.yp ok.pb) ok.b1
  have H := Lib.hid h
  clear h c4 ok
  unfold St.give
  by_cases hn : n < 0
  · rw [if_pos (Or.inl hn)]
    go_enter Tryz.func101, Tryz.ntmps101
    go_wp2
    go_ret
    exact ⟨rfl, H.out, gb_refl _ _⟩
  have n0 : 0 ≤ n := by omega
  clear hn
  by_cases hm : x.by_ < n
  · rw [if_pos (Or.inr hm)]
    go_enter Tryz.func101, Tryz.ntmps101
    go_wp2
    refine wp_loop_rounds 1 ?_
    rw [rounds_succ]
    go_wp2_with (go_at_call 50; refine K1.out.mono ?_; rintro e w' ⟨rfl, rfl⟩)
    go_ret
    exact ⟨rfl, H.out, gb_refl _ _⟩
  · rw [if_neg (by omega)]
    have hm' : n ≤ x.by_ := by omega
    clear hm
    go_enter Tryz.func101, Tryz.ntmps101
    go_wp2
    refine wp_loop_rounds 1 ?_
    rw [rounds_succ]
    go_wp2_with (first | (go_at_call 50; refine K1.out.mono ?_; rintro e w' ⟨rfl, rfl⟩) | (go_at_call 127; refine K2.out.mono ?_; rintro e w' ⟨rfl, rfl⟩))
    go_ret
    exact ⟨rfl, Led.set H.out 4 _ (by simp [LS.cells, St.ls]), gb_set _ _ _ _⟩

theorem sides_broken (b : Nat) (x : St) (n m : Int) (w : World) (h : Led b x.ls w) (hr : x.r ≠ 0) :
    Calls Tryz.prog 70 #[.pointer (some ⟨b, 0, none⟩), .int .i64 n, .int .i64 m] w
      fun e w' => e = .returned (.bool false) ∧ w = w' := by
  have KB := Lib.hid (broken_calls b _ w h)
  have hbr : (x.ls.br != 0) = true := by simp [St.ls, hr]
  clear h hr
  go_enter Tryz.func70, Tryz.ntmps70
  go_wp2_with (go_at_call 22; refine KB.out.mono ?_; rintro e w' ⟨rfl, rfl⟩)
  go_ret
  exact ⟨rfl, rfl⟩

theorem sides_w (b : Nat) (x : St) (n m : Int) (w : World) (h : Led b x.ls w) (hr : x.r = 0) (hn : n < 1 ∨ x.w < n) :
    Calls Tryz.prog 70 #[.pointer (some ⟨b, 0, none⟩), .int .i64 n, .int .i64 m] w
      fun e w' => e = .returned (.bool false) ∧ Led b (x.refuse 1 n).ls w' ∧ w.grownBy w' (some b) := by
  have KB := Lib.hid (broken_calls b _ w h)
  have c0 := (h.c 0).trans (show x.ls.cells[0]? = some (.int .i64 x.w) by simp [LS.cells, St.ls])
  have hbr : (x.ls.br != 0) = false := by simp [St.ls, hr]
  have KR := Lib.hid (refuse_st b x 1 n w h hr (by decide))
  clear h hr
  by_cases h1 : n < 1
  · clear hn
    go_enter Tryz.func70, Tryz.ntmps70
    go_wp2_with (go_at_call 22; refine KB.out.mono ?_; rintro e w' ⟨rfl, rfl⟩)
    refine KR.out.mono ?_
    rintro e w4 ⟨rfl, L4, g4⟩
    have H4 := Lib.hid L4
    have G4 := Lib.hid g4
    clear L4 g4
    go_wp2
    go_ret
    exact ⟨rfl, H4.out, G4.out⟩
  · have h2 : x.w < n := by omega
    have h3 : 1 ≤ n := by omega
    clear hn h1
    go_enter Tryz.func70, Tryz.ntmps70
    go_wp2_with (go_at_call 22; refine KB.out.mono ?_; rintro e w' ⟨rfl, rfl⟩)
    refine KR.out.mono ?_
    rintro e w4 ⟨rfl, L4, g4⟩
    have H4 := Lib.hid L4
    have G4 := Lib.hid g4
    clear L4 g4
    go_wp2
    go_ret
    exact ⟨rfl, H4.out, G4.out⟩

theorem sides_h (b : Nat) (x : St) (n m : Int) (w : World) (h : Led b x.ls w) (hr : x.r = 0) (n1 : 1 ≤ n) (nw : n ≤ x.w) (hn : m < 1 ∨ x.h < m) :
    Calls Tryz.prog 70 #[.pointer (some ⟨b, 0, none⟩), .int .i64 n, .int .i64 m] w
      fun e w' => e = .returned (.bool false) ∧ Led b (x.refuse 1 m).ls w' ∧ w.grownBy w' (some b) := by
  have KB := Lib.hid (broken_calls b _ w h)
  have c0 := (h.c 0).trans (show x.ls.cells[0]? = some (.int .i64 x.w) by simp [LS.cells, St.ls])
  have c1 := (h.c 1).trans (show x.ls.cells[1]? = some (.int .i64 x.h) by simp [LS.cells, St.ls])
  have hbr : (x.ls.br != 0) = false := by simp [St.ls, hr]
  have KR := Lib.hid (refuse_st b x 1 m w h hr (by decide))
  clear h hr
  by_cases h1 : m < 1
  · clear hn
    go_enter Tryz.func70, Tryz.ntmps70
    go_wp2_with (go_at_call 22; refine KB.out.mono ?_; rintro e w' ⟨rfl, rfl⟩)
    refine KR.out.mono ?_
    rintro e w4 ⟨rfl, L4, g4⟩
    have H4 := Lib.hid L4
    have G4 := Lib.hid g4
    clear L4 g4
    go_wp2
    go_ret
    exact ⟨rfl, H4.out, G4.out⟩
  · have h2 : x.h < m := by omega
    have h3 : 1 ≤ m := by omega
    clear hn h1
    go_enter Tryz.func70, Tryz.ntmps70
    go_wp2_with (go_at_call 22; refine KB.out.mono ?_; rintro e w' ⟨rfl, rfl⟩)
    refine KR.out.mono ?_
    rintro e w4 ⟨rfl, L4, g4⟩
    have H4 := Lib.hid L4
    have G4 := Lib.hid g4
    clear L4 g4
    go_wp2
    go_ret
    exact ⟨rfl, H4.out, G4.out⟩

theorem sides_yes (b : Nat) (x : St) (n m : Int) (w : World) (h : Led b x.ls w) (hr : x.r = 0) (n1 : 1 ≤ n) (nw : n ≤ x.w) (m1 : 1 ≤ m) (mh : m ≤ x.h) :
    Calls Tryz.prog 70 #[.pointer (some ⟨b, 0, none⟩), .int .i64 n, .int .i64 m] w
      fun e w' => e = .returned (.bool true) ∧ w = w' := by
  have KB := Lib.hid (broken_calls b _ w h)
  have c0 := (h.c 0).trans (show x.ls.cells[0]? = some (.int .i64 x.w) by simp [LS.cells, St.ls])
  have c1 := (h.c 1).trans (show x.ls.cells[1]? = some (.int .i64 x.h) by simp [LS.cells, St.ls])
  have hbr : (x.ls.br != 0) = false := by simp [St.ls, hr]
  clear h hr
  go_enter Tryz.func70, Tryz.ntmps70
  go_wp2_with (go_at_call 22; refine KB.out.mono ?_; rintro e w' ⟨rfl, rfl⟩)
  go_ret
  exact ⟨rfl, rfl⟩

/-- Sides, any, at any state. -/
theorem sides_calls (b : Nat) (x : St) (n m : Int) (w : World) (h : Led b x.ls w) :
    Calls Tryz.prog 70 #[.pointer (some ⟨b, 0, none⟩), .int .i64 n, .int .i64 m] w
      fun e w' => e = .returned (.bool (x.sides n m).2) ∧ Led b (x.sides n m).1.ls w' ∧ w.grownBy w' (some b) := by
  unfold St.sides
  by_cases hr : x.r = 0
  · rw [if_neg (by simpa using hr)]
    by_cases hn : n < 1 ∨ x.w < n
    · rw [if_pos hn]; exact sides_w b x n m w h hr hn
    · rw [if_neg hn]
      by_cases hm : m < 1 ∨ x.h < m
      · rw [if_pos hm]; exact sides_h b x n m w h hr (by omega) (by omega) hm
      · rw [if_neg hm]
        exact (sides_yes b x n m w h hr (by omega) (by omega) (by omega) (by omega)).mono fun e w' ⟨he, hw⟩ => ⟨he, hw ▸ h, hw ▸ gb_refl _ _⟩
  · rw [if_pos hr]
    exact (sides_broken b x n m w h hr).mono fun e w' ⟨he, hw⟩ => ⟨he, hw ▸ h, hw ▸ gb_refl _ _⟩

def pos (v : Int) : Int := if v < 0 then 0 else v
def St.new (w h b s : Int) : St := { w := pos w, h := pos h, b := pos b, s := pos s, by_ := 0, pk := 0, st := 0, r := 0, a := 0 }
theorem pos_le {v m : Int} (hm : 0 ≤ m) (h : v ≤ m) : 0 ≤ pos v ∧ pos v ≤ m := by unfold pos; split <;> omega
theorem St.new_ok {w h b s : Int} (hw : w ≤ 9223372036854775807) (hh : h ≤ 9223372036854775807) (hb : b ≤ 9223372036854775807) (hs : s ≤ 9223372036854775807) : (St.new w h b s).Ok :=
  ⟨(pos_le (by decide) hw).1, (pos_le (by decide) hw).2, (pos_le (by decide) hh).1, (pos_le (by decide) hh).2, (pos_le (by decide) hb).2, (pos_le (by decide) hs).2,
    Int.le_refl _, Int.le_refl _, (pos_le (by decide) hb).1, Int.le_refl _, (pos_le (by decide) hs).1, by show (0 : Int) ≤ 0; decide, by show (0 : Int) ≤ 3; decide⟩

theorem blk_new (w : World) (C : Array Value) (t : TypeId) : (w.alloc (.cells C t)).heap[w.heap.size]? = some (.cells C t (0, 0)) := by
  show (w.heap.push _)[w.heap.size]? = _
  rw [Array.getElem?_push_size]

theorem new_led (w : World) (o : Obj) (C : Array Value) (S : LS) (e : C = S.cells) : Led (w.heap.size + 1) S ((w.alloc o).alloc (.cells C 92)) := by
  have h := blk_new (w.alloc o) C 92
  rw [show (w.alloc o).heap.size = w.heap.size + 1 from by show (w.heap.push o).size = _; simp] at h
  rw [e] at h
  exact e ▸ h

theorem new_calls (p q r s : Int) (w : World) :
    Calls Tryz.prog 36 #[.agg #[.int .i64 p, .int .i64 q, .int .i64 r, .int .i64 s]] w
      fun e w' => ∃ b, e = .returned (.pointer (some ⟨b, 0, none⟩)) ∧ Led b (St.new p q r s).ls w' ∧ w.grownBy w' none ∧ w.heap.size ≤ b := by
  go_enter Tryz.func36, Tryz.ntmps36
  go_wp2
  all_goals go_ret
  all_goals refine ⟨w.heap.size + 1, rfl, ?_, gb_trans (World.grownBy_alloc _ _ _) (World.grownBy_alloc _ _ _), by omega⟩
  all_goals refine new_led _ _ _ _ ?_
  all_goals simp [LS.cells, St.ls, St.new, pos, *]
  all_goals omega
end Go.Proofs.YtjdhlehpoclnjaaGreat.Le
