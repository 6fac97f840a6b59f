/- The law FaultLatches, walked. -/
import Derived.Test.YtodlibmdchiecaaDoorLat2
import Derived.Test.YtodlibmdchiecaaDoorFau2
import Derived.Deep.LoopGhost
import Derived.Deep.RegionHeld3
namespace Go.Proofs.YtodlibmdchiecaaDoor.La3
open Go.ChangeShapes Go.WideShapes Go.ChangeAt Go.RowKit
open Go.Proofs.YtodlibmdchiecaaDoor.Le Go.Proofs.YtodlibmdchiecaaDoor.Fa
set_option linter.unusedVariables false

/-- The latch as it is: had is told, and the fault. -/
def Lt (b : Nat) (had : Bool) (k f a : Int) (w : World) : Prop := match had with
  | true => LHas b k f a w
  | false => LNo b w ∧ k = 0 ∧ f = 0 ∧ a = 0

set_option maxRecDepth 100000 in
set_option maxHeartbeats 4000000 in
theorem latches_walk (a : Option Addr) (p off len cap : Nat) (K F A : Nat → Int) (W : World) (ha : 0 < len → a = some ⟨p, off, none⟩) (hbig : len ≤ 9223372036854775807)
    (hc : ∀ i, i < len → W.cell? ⟨p, off + i * 3, none⟩ = some (.int .i64 (K i)) ∧ W.cell? ⟨p, off + i * 3 + 1, none⟩ = some (.int .i64 (F i)) ∧ W.cell? ⟨p, off + i * 3 + 2, none⟩ = some (.int .i64 (A i))) :
    Calls Tryd.prog 5 #[.slice a len cap] W fun e w' => e = .returned (.bool true) ∧ W.grownBy w' none := by
  have HC := Lib.hid hc
  have HA := Lib.hid ha
  clear hc ha
  by_cases h100 : 100 < len
  · go_enter Tryd.func5, Tryd.ntmps5
    go_wp2_with fail
    refine (newlatch_calls _).mono ?_
    rintro e w0 ⟨rfl, L0, g0⟩
    have G0 := Lib.hid g0
    clear L0 g0
    go_wp2_with fail
    refine (awake_calls _).mono ?_
    rintro e w3 ⟨rfl, g3⟩
    have G3 := Lib.hid (gb_trans G0.out g3)
    clear g3
    go_wp2
    go_ret
    exact ⟨rfl, G3.out⟩
  · have h101 : len ≤ 100 := by omega
    clear h100
    go_enter Tryd.func5, Tryd.ntmps5
    go_wp2_with fail
    refine (newlatch_calls _).mono ?_
    rintro e w0 ⟨rfl, L0, g0⟩
    obtain ⟨b, hb⟩ : ∃ b, W.heap.size = b := ⟨_, rfl⟩
    have wb : W.heap.size ≤ b := by omega
    rw [hb] at L0
    obtain ⟨X, hX⟩ : ∃ X, w0.heap.size = X := ⟨_, rfl⟩
    have hs0 := g0.size
    have hbX : b < X := by have := L0.lt; omega
    have wX : W.heap.size ≤ X := by omega
    have HL0 := Lib.hid (show Lt b false 0 0 0 (w0.alloc (.cells #[.int .i64 0, .int .i64 0, .int .i64 0] 23)) from ⟨L0.grown (World.grownBy_alloc _ _ none) (by simp), rfl, rfl, rfl⟩)
    have HX0 := Lib.hid (show (w0.alloc (.cells #[.int .i64 0, .int .i64 0, .int .i64 0] 23)).heap[X]? = some (.cells #[.int .i64 0, .int .i64 0, .int .i64 0] 23 (0, 0)) from hX ▸ blk_at)
    have HG0 := Lib.hid (gb_trans g0 (World.grownBy_alloc w0 (.cells #[.int .i64 0, .int .i64 0, .int .i64 0] 23) none))
    have HB := Lib.hid hb
    have HXX := Lib.hid hX
    clear L0 g0 hs0 hb hX
    go_wp2_with fail
    simp only [HB.out, HXX.out]
    go_loopg [5, 25] 101 (fun q hv iv wr => ∃ (k : Nat) (had : Bool) (k0 f0 a0 : Int), k ≤ len ∧ q = 101 - k ∧ hv = .bool had ∧ iv = .int .i64 k ∧ Lt b had k0 f0 a0 wr ∧ wr.heap[X]? = some (.cells #[.int .i64 k0, .int .i64 f0, .int .i64 a0] 23 (0, 0)) ∧ W.grownBy wr none)
    case atStart => exact ⟨0, false, 0, 0, 0, by omega, rfl, rfl, rfl, HL0.out, HX0.out, HG0.out⟩
    case round =>
      obtain ⟨k, had, k0, f0, a0, hk, rfl, rfl, rfl, J1, J2, J3⟩ := hrel
      have HX := Lib.hid J2
      have HG := Lib.hid J3
      have hXw := blk_lt J2
      have hbw : b < wr.heap.size := by omega
      have xf := fun o => blk_free J2 o
      have x0 := blk_cell J2 0
      have x1 := blk_cell J2 1
      have x2 := blk_cell J2 2
      simp only [List.getElem?_toArray, List.getElem?_cons_succ, List.getElem?_cons_zero] at x0 x1 x2
      clear J2 J3 HL0 HX0 HG0
      by_cases hlt : k < len
      · obtain rfl := HA.out (by omega)
        obtain ⟨q0, q1, q2⟩ := HC.out k hlt
        have c0 := HG.out.cell q0 (by simp)
        have c1 := HG.out.cell q1 (by simp)
        have c2 := HG.out.cell q2 (by simp)
        clear q0 q1 q2
        obtain ⟨K', hK⟩ : ∃ x, K k = x := ⟨_, rfl⟩
        obtain ⟨F', hF⟩ : ∃ x, F k = x := ⟨_, rfl⟩
        obtain ⟨A', hA'⟩ : ∃ x, A k = x := ⟨_, rfl⟩
        rw [hK] at c0
        rw [hF] at c1
        rw [hA'] at c2
        clear hK hF hA'
        by_cases hK0 : K' = 0
        · subst hK0
          cases had with
          | true =>
            have HL := Lib.hid (show LHas b k0 f0 a0 wr from J1)
            clear J1
            go_wp2_with fail
            have X5 := blk_al HX.out (.cells #[.int .i64 0, .int .i64 F', .int .i64 A'] 23)
            have F5 := blk_at (w := wr) (o := .cells #[.int .i64 0, .int .i64 F', .int .i64 A'] 23)
            have L5 := HL.out.grown (World.grownBy_alloc wr (.cells #[.int .i64 0, .int .i64 F', .int .i64 A'] 23) none) (by simp)
            have G5 := gb_trans HG.out (World.grownBy_alloc wr (.cells #[.int .i64 0, .int .i64 F', .int .i64 A'] 23) none)
            obtain ⟨w5, hw5⟩ : ∃ w5, wr.alloc (.cells #[.int .i64 0, .int .i64 F', .int .i64 A'] 23) = w5 := ⟨_, rfl⟩
            rw [hw5] at X5 F5 L5 G5
            skip
            simp only [hw5]
            have fc05 := blk_cell F5 0
            have fc15 := blk_cell F5 1
            have fc25 := blk_cell F5 2
            have xc05 := blk_cell X5 0
            have xc15 := blk_cell X5 1
            have xc25 := blk_cell X5 2
            simp only [List.getElem?_toArray, List.getElem?_cons_succ, List.getElem?_cons_zero] at fc05 fc15 fc25 xc05 xc15 xc25
            have HL5 := Lib.hid L5
            have HX5 := Lib.hid X5
            have HG5 := Lib.hid G5
            clear X5 F5 L5 G5 hw5 HX HL HG c0 c1 c2
            go_region_held3 (fun w' => w'.cell? ⟨wr.heap.size, 0, none⟩ = some (.int .i64 0) ∧ w'.cell? ⟨wr.heap.size, 1, none⟩ = some (.int .i64 F') ∧ w'.cell? ⟨wr.heap.size, 2, none⟩ = some (.int .i64 A') ∧ w'.cell? ⟨X, 0, none⟩ = some (.int .i64 k0) ∧ w'.cell? ⟨X, 1, none⟩ = some (.int .i64 f0) ∧ w'.cell? ⟨X, 2, none⟩ = some (.int .i64 a0)) (go_keep)
              (first | (go_at_call 18; refine (note_none b F' A' _).mono ?_; rintro e w6 ⟨rfl, g6o⟩; have g6 : w5.grownBy w6 none := (by first | exact gb_trans (gb_drew w5 _) g6o | exact g6o); clear g6o; have fc06 : w6.cell? ⟨wr.heap.size, 0, none⟩ = some (.int .i64 0) := g6.cell fc05 (by simp); have fc16 : w6.cell? ⟨wr.heap.size, 1, none⟩ = some (.int .i64 F') := g6.cell fc15 (by simp); have fc26 : w6.cell? ⟨wr.heap.size, 2, none⟩ = some (.int .i64 A') := g6.cell fc25 (by simp); have xc06 : w6.cell? ⟨X, 0, none⟩ = some (.int .i64 k0) := g6.cell xc05 (by simp); have xc16 : w6.cell? ⟨X, 1, none⟩ = some (.int .i64 f0) := g6.cell xc15 (by simp); have xc26 : w6.cell? ⟨X, 2, none⟩ = some (.int .i64 a0) := g6.cell xc25 (by simp); have HL6 := Lib.hid (HL5.out.grown g6 (by simp)); have HX6 := Lib.hid (old0 g6 HX5.out (blk_lt HX5.out) (by simp)); have HG6 := Lib.hid (gb_trans HG5.out g6); clear g6) | (go_at_call 19; refine (is_yes b k0 f0 a0 _ HL6.out).mono ?_; rintro e w' ⟨rfl, rfl⟩) | (go_at_call 20; refine (get_yes b k0 f0 a0 _ HL6.out).mono ?_; rintro e w7 ⟨rfl, g7⟩; have fc07 : w7.cell? ⟨wr.heap.size, 0, none⟩ = some (.int .i64 0) := g7.cell fc06 (by simp); have fc17 : w7.cell? ⟨wr.heap.size, 1, none⟩ = some (.int .i64 F') := g7.cell fc16 (by simp); have fc27 : w7.cell? ⟨wr.heap.size, 2, none⟩ = some (.int .i64 A') := g7.cell fc26 (by simp); have xc07 : w7.cell? ⟨X, 0, none⟩ = some (.int .i64 k0) := g7.cell xc06 (by simp); have xc17 : w7.cell? ⟨X, 1, none⟩ = some (.int .i64 f0) := g7.cell xc16 (by simp); have xc27 : w7.cell? ⟨X, 2, none⟩ = some (.int .i64 a0) := g7.cell xc26 (by simp); have HL7 := Lib.hid (HL6.out.grown g7 (by simp)); have HX7 := Lib.hid (old0 g7 HX6.out (blk_lt HX6.out) (by simp)); have HG7 := Lib.hid (gb_trans HG6.out g7); clear g7))
            all_goals
              go_wp2_with fail
              go_roundg (101 - (k + 1))
              case measure => omega
              case rel => exact ⟨k + 1, true, k0, f0, a0, by omega, rfl, rfl, by go_num, HL7.out, HX7.out, HG7.out⟩
          | false =>
            obtain ⟨J4, e1, e2, e3⟩ : LNo b wr ∧ k0 = 0 ∧ f0 = 0 ∧ a0 = 0 := J1
            have HL := Lib.hid J4
            clear J4
            subst e1 e2 e3
            go_wp2_with fail
            have X5 := blk_al HX.out (.cells #[.int .i64 0, .int .i64 F', .int .i64 A'] 23)
            have F5 := blk_at (w := wr) (o := .cells #[.int .i64 0, .int .i64 F', .int .i64 A'] 23)
            have L5 := HL.out.grown (World.grownBy_alloc wr (.cells #[.int .i64 0, .int .i64 F', .int .i64 A'] 23) none) (by simp)
            have G5 := gb_trans HG.out (World.grownBy_alloc wr (.cells #[.int .i64 0, .int .i64 F', .int .i64 A'] 23) none)
            obtain ⟨w5, hw5⟩ : ∃ w5, wr.alloc (.cells #[.int .i64 0, .int .i64 F', .int .i64 A'] 23) = w5 := ⟨_, rfl⟩
            rw [hw5] at X5 F5 L5 G5
            skip
            simp only [hw5]
            have fc05 := blk_cell F5 0
            have fc15 := blk_cell F5 1
            have fc25 := blk_cell F5 2
            have xc05 := blk_cell X5 0
            have xc15 := blk_cell X5 1
            have xc25 := blk_cell X5 2
            simp only [List.getElem?_toArray, List.getElem?_cons_succ, List.getElem?_cons_zero] at fc05 fc15 fc25 xc05 xc15 xc25
            have HL5 := Lib.hid L5
            have HX5 := Lib.hid X5
            have HG5 := Lib.hid G5
            clear X5 F5 L5 G5 hw5 HX HL HG c0 c1 c2
            go_region_held3 (fun w' => w'.cell? ⟨wr.heap.size, 0, none⟩ = some (.int .i64 0) ∧ w'.cell? ⟨wr.heap.size, 1, none⟩ = some (.int .i64 F') ∧ w'.cell? ⟨wr.heap.size, 2, none⟩ = some (.int .i64 A') ∧ w'.cell? ⟨X, 0, none⟩ = some (.int .i64 0) ∧ w'.cell? ⟨X, 1, none⟩ = some (.int .i64 0) ∧ w'.cell? ⟨X, 2, none⟩ = some (.int .i64 0)) (go_keep)
              (first | (go_at_call 18; refine (note_none b F' A' _).mono ?_; rintro e w6 ⟨rfl, g6o⟩; have g6 : w5.grownBy w6 none := (by first | exact gb_trans (gb_drew w5 _) g6o | exact g6o); clear g6o; have fc06 : w6.cell? ⟨wr.heap.size, 0, none⟩ = some (.int .i64 0) := g6.cell fc05 (by simp); have fc16 : w6.cell? ⟨wr.heap.size, 1, none⟩ = some (.int .i64 F') := g6.cell fc15 (by simp); have fc26 : w6.cell? ⟨wr.heap.size, 2, none⟩ = some (.int .i64 A') := g6.cell fc25 (by simp); have xc06 : w6.cell? ⟨X, 0, none⟩ = some (.int .i64 0) := g6.cell xc05 (by simp); have xc16 : w6.cell? ⟨X, 1, none⟩ = some (.int .i64 0) := g6.cell xc15 (by simp); have xc26 : w6.cell? ⟨X, 2, none⟩ = some (.int .i64 0) := g6.cell xc25 (by simp); have HL6 := Lib.hid (HL5.out.grown g6 (by simp)); have HX6 := Lib.hid (old0 g6 HX5.out (blk_lt HX5.out) (by simp)); have HG6 := Lib.hid (gb_trans HG5.out g6); clear g6) | (go_at_call 19; refine (is_no b _ HL6.out).mono ?_; rintro e w' ⟨rfl, rfl⟩) | (go_at_call 20; refine (get_no b _ HL6.out).mono ?_; rintro e w7 ⟨rfl, g7⟩; have fc07 : w7.cell? ⟨wr.heap.size, 0, none⟩ = some (.int .i64 0) := g7.cell fc06 (by simp); have fc17 : w7.cell? ⟨wr.heap.size, 1, none⟩ = some (.int .i64 F') := g7.cell fc16 (by simp); have fc27 : w7.cell? ⟨wr.heap.size, 2, none⟩ = some (.int .i64 A') := g7.cell fc26 (by simp); have xc07 : w7.cell? ⟨X, 0, none⟩ = some (.int .i64 0) := g7.cell xc06 (by simp); have xc17 : w7.cell? ⟨X, 1, none⟩ = some (.int .i64 0) := g7.cell xc16 (by simp); have xc27 : w7.cell? ⟨X, 2, none⟩ = some (.int .i64 0) := g7.cell xc26 (by simp); have HL7 := Lib.hid (HL6.out.grown g7 (by simp)); have HX7 := Lib.hid (old0 g7 HX6.out (blk_lt HX6.out) (by simp)); have HG7 := Lib.hid (gb_trans HG6.out g7); clear g7))
            all_goals
              go_wp2_with fail
              go_roundg (101 - (k + 1))
              case measure => omega
              case rel => exact ⟨k + 1, false, 0, 0, 0, by omega, rfl, rfl, by go_num, ⟨HL7.out, rfl, rfl, rfl⟩, HX7.out, HG7.out⟩
        · have hK1 : (K' == 0) = false := by simpa using hK0
          have hK2 : (K' != 0) = true := by simpa using hK0
          cases had with
          | true =>
            have HL := Lib.hid (show LHas b k0 f0 a0 wr from J1)
            clear J1
            go_wp2_with fail
            have X5 := blk_al HX.out (.cells #[.int .i64 K', .int .i64 F', .int .i64 A'] 23)
            have F5 := blk_at (w := wr) (o := .cells #[.int .i64 K', .int .i64 F', .int .i64 A'] 23)
            have L5 := HL.out.grown (World.grownBy_alloc wr (.cells #[.int .i64 K', .int .i64 F', .int .i64 A'] 23) none) (by simp)
            have G5 := gb_trans HG.out (World.grownBy_alloc wr (.cells #[.int .i64 K', .int .i64 F', .int .i64 A'] 23) none)
            obtain ⟨w5, hw5⟩ : ∃ w5, wr.alloc (.cells #[.int .i64 K', .int .i64 F', .int .i64 A'] 23) = w5 := ⟨_, rfl⟩
            rw [hw5] at X5 F5 L5 G5
            skip
            simp only [hw5]
            have fc05 := blk_cell F5 0
            have fc15 := blk_cell F5 1
            have fc25 := blk_cell F5 2
            have xc05 := blk_cell X5 0
            have xc15 := blk_cell X5 1
            have xc25 := blk_cell X5 2
            simp only [List.getElem?_toArray, List.getElem?_cons_succ, List.getElem?_cons_zero] at fc05 fc15 fc25 xc05 xc15 xc25
            have HL5 := Lib.hid L5
            have HX5 := Lib.hid X5
            have HG5 := Lib.hid G5
            clear X5 F5 L5 G5 hw5 HX HL HG c0 c1 c2
            go_region_held3 (fun w' => w'.cell? ⟨wr.heap.size, 0, none⟩ = some (.int .i64 K') ∧ w'.cell? ⟨wr.heap.size, 1, none⟩ = some (.int .i64 F') ∧ w'.cell? ⟨wr.heap.size, 2, none⟩ = some (.int .i64 A') ∧ w'.cell? ⟨X, 0, none⟩ = some (.int .i64 k0) ∧ w'.cell? ⟨X, 1, none⟩ = some (.int .i64 f0) ∧ w'.cell? ⟨X, 2, none⟩ = some (.int .i64 a0)) (go_keep)
              (first | (go_at_call 18; refine (note_had b k0 f0 a0 K' F' A' _ (by exact HL5.out) hK0).mono ?_; rintro e w6 ⟨rfl, g6o⟩; have g6 : w5.grownBy w6 none := (by first | exact gb_trans (gb_drew w5 _) g6o | exact g6o); clear g6o; have fc06 : w6.cell? ⟨wr.heap.size, 0, none⟩ = some (.int .i64 K') := g6.cell fc05 (by simp); have fc16 : w6.cell? ⟨wr.heap.size, 1, none⟩ = some (.int .i64 F') := g6.cell fc15 (by simp); have fc26 : w6.cell? ⟨wr.heap.size, 2, none⟩ = some (.int .i64 A') := g6.cell fc25 (by simp); have xc06 : w6.cell? ⟨X, 0, none⟩ = some (.int .i64 k0) := g6.cell xc05 (by simp); have xc16 : w6.cell? ⟨X, 1, none⟩ = some (.int .i64 f0) := g6.cell xc15 (by simp); have xc26 : w6.cell? ⟨X, 2, none⟩ = some (.int .i64 a0) := g6.cell xc25 (by simp); have HL6 := Lib.hid (HL5.out.grown g6 (by simp)); have HX6 := Lib.hid (old0 g6 HX5.out (blk_lt HX5.out) (by simp)); have HG6 := Lib.hid (gb_trans HG5.out g6); clear g6) | (go_at_call 19; refine (is_yes b k0 f0 a0 _ HL6.out).mono ?_; rintro e w' ⟨rfl, rfl⟩) | (go_at_call 20; refine (get_yes b k0 f0 a0 _ HL6.out).mono ?_; rintro e w7 ⟨rfl, g7⟩; have fc07 : w7.cell? ⟨wr.heap.size, 0, none⟩ = some (.int .i64 K') := g7.cell fc06 (by simp); have fc17 : w7.cell? ⟨wr.heap.size, 1, none⟩ = some (.int .i64 F') := g7.cell fc16 (by simp); have fc27 : w7.cell? ⟨wr.heap.size, 2, none⟩ = some (.int .i64 A') := g7.cell fc26 (by simp); have xc07 : w7.cell? ⟨X, 0, none⟩ = some (.int .i64 k0) := g7.cell xc06 (by simp); have xc17 : w7.cell? ⟨X, 1, none⟩ = some (.int .i64 f0) := g7.cell xc16 (by simp); have xc27 : w7.cell? ⟨X, 2, none⟩ = some (.int .i64 a0) := g7.cell xc26 (by simp); have HL7 := Lib.hid (HL6.out.grown g7 (by simp)); have HX7 := Lib.hid (old0 g7 HX6.out (blk_lt HX6.out) (by simp)); have HG7 := Lib.hid (gb_trans HG6.out g7); clear g7))
            all_goals
              go_wp2_with fail
              go_roundg (101 - (k + 1))
              case measure => omega
              case rel => exact ⟨k + 1, true, k0, f0, a0, by omega, rfl, rfl, by go_num, HL7.out, HX7.out, HG7.out⟩
          | false =>
            obtain ⟨J4, e1, e2, e3⟩ : LNo b wr ∧ k0 = 0 ∧ f0 = 0 ∧ a0 = 0 := J1
            have HL := Lib.hid J4
            clear J4
            subst e1 e2 e3
            go_wp2_with fail
            have g3 : wr.grownBy (((wr.setCell ⟨X, 0, none⟩ (.int .i64 K')).setCell ⟨X, 1, none⟩ (.int .i64 F')).setCell ⟨X, 2, none⟩ (.int .i64 A')) (some X) := gb_trans (gb_trans (gb_set _ _ _ _) (gb_set _ _ _ _)) (gb_set _ _ _ _)
            have hsz : (((wr.setCell ⟨X, 0, none⟩ (.int .i64 K')).setCell ⟨X, 1, none⟩ (.int .i64 F')).setCell ⟨X, 2, none⟩ (.int .i64 A')).heap.size = wr.heap.size := by simp [World.setCell]
            have X5 := blk_al (blk_set (blk_set (blk_set HX.out 0 (.int .i64 K')) 1 (.int .i64 F')) 2 (.int .i64 A')) (.cells #[.int .i64 K', .int .i64 F', .int .i64 A'] 23)
            have F5 := blk_at (w := (((wr.setCell ⟨X, 0, none⟩ (.int .i64 K')).setCell ⟨X, 1, none⟩ (.int .i64 F')).setCell ⟨X, 2, none⟩ (.int .i64 A'))) (o := .cells #[.int .i64 K', .int .i64 F', .int .i64 A'] 23)
            rw [hsz] at F5
            have L5 := (HL.out.grown g3 (by simp; omega)).grown (World.grownBy_alloc _ (.cells #[.int .i64 K', .int .i64 F', .int .i64 A'] 23) none) (by simp)
            have G5 := gb_trans (gb_own HG.out wX g3) (World.grownBy_alloc _ (.cells #[.int .i64 K', .int .i64 F', .int .i64 A'] 23) none)
            obtain ⟨w5, hw5⟩ : ∃ w5, (((wr.setCell ⟨X, 0, none⟩ (.int .i64 K')).setCell ⟨X, 1, none⟩ (.int .i64 F')).setCell ⟨X, 2, none⟩ (.int .i64 A')).alloc (.cells #[.int .i64 K', .int .i64 F', .int .i64 A'] 23) = w5 := ⟨_, rfl⟩
            rw [hw5] at X5 F5 L5 G5
            simp only [List.setIfInBounds_toArray, List.set_cons_zero, List.set_cons_succ] at X5
            simp only [hw5]
            have fc05 := blk_cell F5 0
            have fc15 := blk_cell F5 1
            have fc25 := blk_cell F5 2
            have xc05 := blk_cell X5 0
            have xc15 := blk_cell X5 1
            have xc25 := blk_cell X5 2
            simp only [List.getElem?_toArray, List.getElem?_cons_succ, List.getElem?_cons_zero] at fc05 fc15 fc25 xc05 xc15 xc25
            have HL5 := Lib.hid L5
            have HX5 := Lib.hid X5
            have HG5 := Lib.hid G5
            clear X5 F5 L5 G5 hw5 g3 hsz HX HL HG c0 c1 c2
            go_region_held3 (fun w' => w'.cell? ⟨wr.heap.size, 0, none⟩ = some (.int .i64 K') ∧ w'.cell? ⟨wr.heap.size, 1, none⟩ = some (.int .i64 F') ∧ w'.cell? ⟨wr.heap.size, 2, none⟩ = some (.int .i64 A') ∧ w'.cell? ⟨X, 0, none⟩ = some (.int .i64 K') ∧ w'.cell? ⟨X, 1, none⟩ = some (.int .i64 F') ∧ w'.cell? ⟨X, 2, none⟩ = some (.int .i64 A')) (go_keep)
              (first | (go_at_call 18; refine (note_first b K' F' A' _ (by exact HL5.out) hK0).mono ?_; rintro e w6 ⟨rfl, h6, g6o⟩; have g6 : w5.grownBy w6 (some b) := (by first | exact gb_trans (gb_drew w5 _) g6o | exact g6o); clear g6o; have fc06 : w6.cell? ⟨wr.heap.size, 0, none⟩ = some (.int .i64 K') := g6.cell fc05 (by simp; omega); have fc16 : w6.cell? ⟨wr.heap.size, 1, none⟩ = some (.int .i64 F') := g6.cell fc15 (by simp; omega); have fc26 : w6.cell? ⟨wr.heap.size, 2, none⟩ = some (.int .i64 A') := g6.cell fc25 (by simp; omega); have xc06 : w6.cell? ⟨X, 0, none⟩ = some (.int .i64 K') := g6.cell xc05 (by simp; omega); have xc16 : w6.cell? ⟨X, 1, none⟩ = some (.int .i64 F') := g6.cell xc15 (by simp; omega); have xc26 : w6.cell? ⟨X, 2, none⟩ = some (.int .i64 A') := g6.cell xc25 (by simp; omega); have HL6 := Lib.hid h6; have HX6 := Lib.hid (old0 g6 HX5.out (blk_lt HX5.out) (by simp; omega)); have HG6 := Lib.hid (gb_own HG5.out wb g6); clear h6 g6) | (go_at_call 19; refine (is_yes b K' F' A' _ HL6.out).mono ?_; rintro e w' ⟨rfl, rfl⟩) | (go_at_call 20; refine (get_yes b K' F' A' _ HL6.out).mono ?_; rintro e w7 ⟨rfl, g7⟩; have fc07 : w7.cell? ⟨wr.heap.size, 0, none⟩ = some (.int .i64 K') := g7.cell fc06 (by simp); have fc17 : w7.cell? ⟨wr.heap.size, 1, none⟩ = some (.int .i64 F') := g7.cell fc16 (by simp); have fc27 : w7.cell? ⟨wr.heap.size, 2, none⟩ = some (.int .i64 A') := g7.cell fc26 (by simp); have xc07 : w7.cell? ⟨X, 0, none⟩ = some (.int .i64 K') := g7.cell xc06 (by simp); have xc17 : w7.cell? ⟨X, 1, none⟩ = some (.int .i64 F') := g7.cell xc16 (by simp); have xc27 : w7.cell? ⟨X, 2, none⟩ = some (.int .i64 A') := g7.cell xc26 (by simp); have HL7 := Lib.hid (HL6.out.grown g7 (by simp)); have HX7 := Lib.hid (old0 g7 HX6.out (blk_lt HX6.out) (by simp)); have HG7 := Lib.hid (gb_trans HG6.out g7); clear g7))
            all_goals
              go_wp2_with fail
              go_roundg (101 - (k + 1))
              case measure => omega
              case rel => exact ⟨k + 1, true, K', F', A', by omega, rfl, rfl, by go_num, HL7.out, HX7.out, HG7.out⟩
      · go_wp2_with fail
        refine (awake_calls _).mono ?_
        rintro e w3 ⟨rfl, g3⟩
        have G3 := Lib.hid (gb_trans HG.out g3)
        clear g3
        go_wp2
        go_ret
        exact ⟨rfl, G3.out⟩

end Go.Proofs.YtodlibmdchiecaaDoor.La3
