/- Layer 9: a word's colour, by the places; the chapter's examples. -/
import Derived.Test.YtljbhahdaepecaaDoorMasC
import Derived.Test.YtljbhahdaepecaaDoorMas6
namespace Go.Proofs.YtljbhahdaepecaaDoor.Ma
open Go.ChangeShapes Go.WideShapes Go.ChangeAt Go.RowKit
open Go.Proofs.YtljbhahdaepecaaDoor.Le Go.Proofs.YtljbhahdaepecaaDoor.Sc
set_option linter.unusedVariables false

/-- A place that Find may tell: of no bits, or of bits of a long word. -/
def okP (s n : Nat) : Prop := (s = 0 ∧ n = 0) ∨ (1 ≤ n ∧ s + n ≤ 32)
/-- A channel as eight bits. -/
def colV (word : Int) (s n : Nat) : Int := if n = 0 then 0 else near (ofV word s n) (pw n - 1)
/-- The mask of a place. -/
def maskW (s n : Nat) : Nat := if n = 0 then 0 else blk s n

theorem has_0 : hasB 0 0 = false := by decide

theorem of_calls (s n : Nat) (word : Int) (W : World) (h : okP s n) : Calls Tryd.prog 10 #[.agg #[.int .i64 s, .int .i64 n], .int .i64 word] W
    fun e w' => e = .returned (.int .i64 (if n = 0 then 0 else ofV word s n)) ∧ W.grownBy w' none := by
  rcases h with ⟨rfl, rfl⟩ | ⟨h1, h2⟩
  · exact of_no 0 0 word W (by decide) (by decide) has_0
  · rw [if_neg (by omega)]
    exact of_yes s n word W h1 h2

theorem bits_of (s n : Nat) (word : Int) (W : World) (h : okP s n) :
    Calls Tryd.prog 27 #[.int .i64 (if n = 0 then 0 else ofV word s n), .int .i64 n] W fun e w' => e = .returned (.tuple #[.int .u8 (colV word s n), .bool (decide (n ≠ 0))]) ∧ W = w' := by
  rcases h with ⟨rfl, rfl⟩ | ⟨h1, h2⟩
  · exact bits_bad 0 0 W (.inl (by decide))
  · unfold colV
    rw [if_neg (by omega), if_neg (by omega), decide_eq_true (by omega)]
    obtain ⟨a, b⟩ := ofV_bd word s (show n ≤ 32 by omega)
    refine bits_yes (ofV word s n) n W h1 (by omega) ?_
    unfold may
    obtain ⟨p0, p1⟩ := pw_le (show n ≤ 32 by omega)
    have p2 := pw_1 h1
    simp
    omega

/-- The colour of a word, by the places of the channels. -/
theorem color_is (s n : Nat → Nat) (word : Int) (W : World) (h : ∀ k, k < 4 → okP (s k) (n k)) :
    Calls Tryd.prog 16 #[.agg (set8 (s 0) (n 0) (s 1) (n 1) (s 2) (n 2) (s 3) (n 3)), .int .i64 word] W
      fun e w' => e = .returned (.agg #[.int .u8 (colV word (s 0) (n 0)), .int .u8 (colV word (s 1) (n 1)), .int .u8 (colV word (s 2) (n 2)), .int .u8 (if n 3 = 0 then 255 else colV word (s 3) (n 3))]) ∧ W.grownBy w' none := by
  have H := color_calls (fun k => (s k : Int)) (fun k => (n k : Int)) (fun k => if n k = 0 then 0 else ofV word (s k) (n k)) (fun k => colV word (s k) (n k)) (fun k => decide (n k ≠ 0)) word (decide (n 3 = 0)) W
    (fun k hk u => of_calls (s k) (n k) word u (h k hk)) (fun k hk u => bits_of (s k) (n k) word u (h k hk)) (by
      by_cases e : n 3 = 0
      · simp [e]
      · rw [decide_eq_false e, beq_eq_false_iff_ne]; omega)
  simpa using H

/-- The document's colour of a word, by the places of the channels. -/
theorem rchannel_is (s n : Nat) (word none : Int) (W : World) (h : okP s n) (h0 : 0 ≤ none) (h1 : none ≤ 255) :
    Calls Tryd.prog 28 #[.int .i64 word, .int .i64 (maskW s n : Nat), .int .i64 none] W fun e w' => e = .returned (.int .u8 (if n = 0 then none else colV word s n)) ∧ W = w' := by
  rcases h with ⟨rfl, rfl⟩ | ⟨h2, h3⟩
  · exact channel_none word none W h0 h1
  · unfold colV maskW
    rw [if_neg (by omega), if_neg (by omega), if_neg (by omega)]
    have := channel_blk word none s n W h2 h3
    unfold chV at this
    rw [ofV_low word s n h3]
    exact this

theorem rcolor_is (s n : Nat → Nat) (word : Int) (W : World) (h : ∀ k, k < 4 → okP (s k) (n k)) :
    Calls Tryd.prog 17 #[.int .i64 word, .int .i64 (maskW (s 0) (n 0) : Nat), .int .i64 (maskW (s 1) (n 1) : Nat), .int .i64 (maskW (s 2) (n 2) : Nat), .int .i64 (maskW (s 3) (n 3) : Nat)] W
      fun e w' => e = .returned (.agg #[.int .u8 (colV word (s 0) (n 0)), .int .u8 (colV word (s 1) (n 1)), .int .u8 (colV word (s 2) (n 2)), .int .u8 (if n 3 = 0 then 255 else colV word (s 3) (n 3))]) ∧ W.grownBy w' none := by
  have c0 : ∀ s n, (if n = 0 then (0 : Int) else colV word s n) = colV word s n := fun s n => by
    by_cases e : n = 0
    · rw [if_pos e]; unfold colV; rw [if_pos e]
    · rw [if_neg e]
  refine rcolor_calls word _ _ _ _ _ _ _ _ W (fun u => ?_) (fun u => ?_) (fun u => ?_) (fun u => rchannel_is (s 3) (n 3) word 255 u (h 3 (by decide)) (by decide) (by decide))
  · have := rchannel_is (s 0) (n 0) word 0 u (h 0 (by decide)) (by decide) (by decide)
    rwa [c0] at this
  · have := rchannel_is (s 1) (n 1) word 0 u (h 1 (by decide)) (by decide) (by decide)
    rwa [c0] at this
  · have := rchannel_is (s 2) (n 2) word 0 u (h 2 (by decide)) (by decide) (by decide)
    rwa [c0] at this

theorem white (W : World) :
    Calls Tryd.prog 16 #[.agg (set8 10 5 5 5 0 5 0 0), .int .i64 32767] W
      fun e w' => e = .returned (.agg #[.int .u8 255, .int .u8 255, .int .u8 255, .int .u8 255]) ∧ W.grownBy w' none := by
  have H := color_is (fun k => if k = 0 then 10 else if k = 1 then 5 else 0) (fun k => if k = 3 then 0 else 5) 32767 W (fun k hk => by
    obtain rfl | rfl | rfl | rfl : k = 0 ∨ k = 1 ∨ k = 2 ∨ k = 3 := by omega
    · exact .inr (by decide)
    · exact .inr (by decide)
    · exact .inr (by decide)
    · exact .inl (by decide))
  have e0 : colV 32767 10 5 = 255 := by decide
  have e1 : colV 32767 5 5 = 255 := by decide
  have e2 : colV 32767 0 5 = 255 := by decide
  simp [e0, e1, e2] at H
  exact H

set_option maxRecDepth 100000 in
theorem awake_calls (W : World) (hlt : 0 < W.heap.size) (hT : Tab W) : Calls Tryd.prog 12 #[] W fun e w' => e = .returned (.bool true) ∧ W.grownBy w' none := by
  have F := find_calls 31744 16 W (.inl rfl) (by decide) hlt hT
  rw [show findV 31744 16 = (10, 5, 0) from by decide] at F
  have C := fun u => common_16 u
  have K := fun u => white u
  unfold set8 at C K
  have F' := Lib.hid F
  have C' := Lib.hid C
  have K' := Lib.hid K
  clear F C K
  go_enter Tryd.func12, Tryd.ntmps12
  go_wp2_with fail
  refine F'.out.mono ?_
  rintro e w1 ⟨rfl, g1⟩
  have G1 := Lib.hid g1
  clear g1
  go_wp2_with fail
  refine (C'.out _).mono ?_
  rintro e w2 ⟨rfl, g2⟩
  have A2 : w2.heap[w1.heap.size]? = some (.cells #[.int .i64 10, .int .i64 5] 23 (0, 0)) := old1 g2 (by simp)
  have m0 : w2.cell? ⟨w1.heap.size, 0, none⟩ = some (.int .i64 10) := blk_cell A2 0
  have m1 : w2.cell? ⟨w1.heap.size, 1, none⟩ = some (.int .i64 5) := blk_cell A2 1
  have hl2 : w1.heap.size < w2.heap.size := blk_lt A2
  have G2 := Lib.hid (gb_trans (gb_trans G1.out (World.grownBy_alloc _ _ _)) g2)
  clear g2 A2
  go_wp2_with fail
  refine (K'.out _).mono ?_
  rintro e w3 ⟨rfl, g3⟩
  have G3 := Lib.hid (gb_trans (gb_trans G2.out (World.grownBy_alloc _ _ _)) g3)
  clear g3
  go_wp2
  go_ret
  exact ⟨rfl, G3.out⟩

end Go.Proofs.YtljbhahdaepecaaDoor.Ma
