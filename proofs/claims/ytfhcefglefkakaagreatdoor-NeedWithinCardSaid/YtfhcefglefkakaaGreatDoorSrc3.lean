/- Package src: a window, why a reading failed, a new source. -/
import Derived.Test.YtfhcefglefkakaaGreatDoorSrc2
namespace Go.Proofs.YtfhcefglefkakaaGreatDoor.Sr
open Go.ChangeShapes Go.WideShapes Go.ChangeAt Go.RowKit
open Go.Proofs.YtfhcefglefkakaaGreatDoor.Le
set_option linter.unusedVariables false

theorem window_no (b l : Nat) (s : ByteArray) (p f t : Nat) (q n : Int) (w : World) (h : So b l s p f t w) (hq : q ≤ 9223372036854775807) (hn : q < f ∨ n < 0 ∨ (t : Int) - q < n) :
    Calls Tryz.prog 68 #[.pointer (some ⟨b, 0, none⟩), .int .i64 q, .int .i64 n] w fun e w' => e = .returned (.tuple #[.pointer none, .bool false]) ∧ w.grownBy w' none := by
  have d3 := h.c3
  have d4 := h.c4
  have h1 := h.fp
  have h2 := h.pt
  have h3 := h.ts
  have h4 := h.big
  clear h
  by_cases g1 : q < f
  · clear hn
    go_enter Tryz.func68, Tryz.ntmps68
    go_wp2_with fail
    go_ret2
    exact ⟨rfl, gb_refl _ _⟩
  have g1' : (f : Int) ≤ q := by omega
  by_cases g2 : n < 0
  · clear hn
    go_enter Tryz.func68, Tryz.ntmps68
    go_wp2_with fail
    go_ret2
    exact ⟨rfl, gb_refl _ _⟩
  have g3 : (t : Int) - q < n := by omega
  clear hn
  go_enter Tryz.func68, Tryz.ntmps68
  go_wp2_with fail
  go_ret2
  exact ⟨rfl, gb_refl _ _⟩

theorem window_yes (b l : Nat) (s : ByteArray) (p f t q n : Nat) (w : World) (h : So b l s p f t w) (h1 : f ≤ q) (h2 : q + n ≤ t) :
    Calls Tryz.prog 68 #[.pointer (some ⟨b, 0, none⟩), .int .i64 q, .int .i64 n] w
      fun e w' => ∃ c, e = .returned (.tuple #[.pointer (some ⟨c, 0, none⟩), .bool true]) ∧ (l < w.heap.size → So c l s q q (q + n) w') ∧ w.grownBy w' none ∧ w.heap.size ≤ c := by
  have d0 := h.c0
  have d1 := h.c1
  have d3 := h.c3
  have d4 := h.c4
  have h3 := h.ts
  have h4 := h.big
  have hb := h.lt
  clear h
  go_enter Tryz.func68, Tryz.ntmps68
  go_wp2_with fail
  · go_region
    all_goals
      go_wp2
      go_ret2
      refine ⟨w.heap.size, rfl, fun hl => ⟨?_, by omega, Nat.le_refl _, by omega, by omega, h4⟩, gb_trans (World.grownBy_alloc _ _ _) (gb_drew _ _), Nat.le_refl _⟩
      have e := blk_new w (SC l s q q (q + n)) 55
      unfold SC at e ⊢
      rw [show ((q + n : Nat) : Int) = (q : Int) + n from by omega] at e ⊢
      exact e

theorem fault_calls (b l : Nat) (s : ByteArray) (p f t : Nat) (x : St) (k : Int) (w : World) (h : So b l s p f t w) (hl : Led l x.ls w) :
    Calls Tryz.prog 51 #[.pointer (some ⟨b, 0, none⟩), .int .i64 k] w
      fun e w' => e = .returned (if x.r = 0 then .agg #[.int .i64 1, .int .i64 k, .int .i64 t] else .agg #[.int .i64 4, .int .i64 k, .int .i64 p]) ∧ w.grownBy w' none := by
  have d0 := h.c0
  have d2 := h.c2
  have d4 := h.c4
  have hb := h.lt
  have hB := hl.lt
  have K := broken_calls l x.ls (w.alloc (.cells #[.int .i64 0, .int .i64 0, .int .i64 0] 36)) (hl.alloc _)
  clear h hl
  by_cases hr : x.r = 0
  · rw [if_pos hr]
    rw [show (x.ls.br != 0) = false from by simp [St.ls, hr]] at K
    have hK := Lib.hid K
    clear K hr
    go_enter Tryz.func51, Tryz.ntmps51
    go_wp2_with (go_at_call 82; refine hK.out.mono ?_; rintro e w' ⟨rfl, rfl⟩)
    refine bodyPost_ret (v := .agg #[.int .i64 1, .int .i64 k, .int .i64 t]) (by simp [results, Tryz.results51, go_sem]) rfl ⟨rfl, World.grownBy_alloc _ _ _⟩
  · rw [if_neg hr]
    rw [show (x.ls.br != 0) = true from by simp [St.ls, hr]] at K
    have hK := Lib.hid K
    clear K hr
    go_enter Tryz.func51, Tryz.ntmps51
    go_wp2_with (go_at_call 82; refine hK.out.mono ?_; rintro e w' ⟨rfl, rfl⟩)
    refine bodyPost_ret (v := .agg #[.int .i64 4, .int .i64 k, .int .i64 p]) (by simp [results, Tryz.results51, go_sem]) rfl ⟨rfl, World.grownBy_alloc _ _ _⟩

theorem snew_nil (s : ByteArray) (w : World) :
    Calls Tryz.prog 16 #[.pointer none, .string s] w fun e w' => e = .returned (.tuple #[.pointer none, .int .i64 1]) ∧ w = w' := by
  go_enter Tryz.func16, Tryz.ntmps16
  go_wp2
  go_ret2
  exact ⟨rfl, rfl⟩

theorem snew_calls (l : Nat) (s : ByteArray) (w : World) (hs : s.size ≤ 9223372036854775807) :
    Calls Tryz.prog 16 #[.pointer (some ⟨l, 0, none⟩), .string s] w
      fun e w' => ∃ c, e = .returned (.tuple #[.pointer (some ⟨c, 0, none⟩), .int .i64 0]) ∧ (l < w.heap.size → So c l s 0 0 s.size w') ∧ w.grownBy w' none ∧ w.heap.size ≤ c := by
  go_enter Tryz.func16, Tryz.ntmps16
  go_wp2
  go_ret2
  refine ⟨w.heap.size, rfl, fun hl => ⟨?_, by omega, Nat.le_refl _, Nat.zero_le _, Nat.le_refl _, hs⟩, World.grownBy_alloc _ _ _, Nat.le_refl _⟩
  exact blk_new w (SC l s 0 0 s.size) 55

end Go.Proofs.YtfhcefglefkakaaGreatDoor.Sr
