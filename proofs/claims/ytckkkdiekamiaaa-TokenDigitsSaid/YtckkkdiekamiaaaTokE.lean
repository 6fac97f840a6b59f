/- The law TokenDigits, walked (written by wip/gen/tok_digits.py). -/
import Derived.Test.YtckkkdiekamiaaaTokC
import Derived.Test.YtckkkdiekamiaaaTok5
import Derived.Test.YtckkkdiekamiaaaTokD
namespace Go.Proofs.Ytckkkdiekamiaaa.Tk
open Go.ChangeShapes Go.WideShapes Go.ChangeAt Go.RowKit
open Go.Proofs.Ytckkkdiekamiaaa.Le Go.Proofs.Ytckkkdiekamiaaa.Sr
set_option linter.unusedVariables false

theorem empty_of {s : ByteArray} (h : s.size = 0) : s = ⟨#[]⟩ := by
  apply ByteArray.ext
  apply Array.eq_empty_of_size_eq_zero
  exact h
theorem not_empty {s : ByteArray} (h : ¬ s.size = 0) : s.toList.isEmpty = false := by
  rw [Lib.toList_data]
  cases h' : s.data.toList with
  | nil =>
    have := Lib.size_eq s
    rw [h'] at this
    exact absurd this h
  | cons a b => rfl

set_option maxRecDepth 100000 in
set_option maxHeartbeats 4000000 in
theorem digits_walk (s : ByteArray) (W : World) (hs : s.size ≤ 9223372036854775807) :
    Calls Try.prog 4 #[.string s] W fun e w' => e = .returned (.bool true) ∧ W.grownBy w' none := by
  go_enter Try.func4, Try.ntmps4
  go_wp2_with fail
  refine (fresh_calls s _ hs).mono ?_
  rintro e w1 ⟨c, l, rfl, R1, g1, hl, hc⟩
  have HR1 := Lib.hid R1
  have G1 := Lib.hid g1
  clear R1 g1
  by_cases h300 : s.size ≤ 300
  · have d0 : decide ((300 : Int) < s.size) = false := decide_eq_false (by omega)
    go_wp2_with fail
    go_loopg [4, 25] 100 (fun q av iv wr => ∃ (k i : Nat) (y : St), k ≤ s.size ∧ i ≤ 100 ∧ q = 100 - i ∧ av = .int .i64 k ∧ iv = .int .i64 i ∧ Rd c l s k y wr ∧ y.r = 0 ∧ y.s = 100000 ∧ y.st ≤ k + 2 * i ∧ W.grownBy wr none)
    case atStart => exact ⟨0, 0, _, by omega, by omega, rfl, rfl, rfl, HR1.out, rfl, rfl, by show (0 : Int) ≤ _; omega, G1.out⟩
    case round =>
      obtain ⟨k, i, y, hk, hi, rfl, rfl, rfl, R, yr, ys, yt, g⟩ := hrel
      by_cases hi100 : i < 100
      · have d1 : decide ((i : Int) < 100) = true := decide_eq_true (by omega)
        have KN := dig_calls c l s k y wr R yr
        have KR := fun u => rdigit_calls s k u (by omega) hk
        have HG := Lib.hid g
        have hN : ovN s k + 1 ≤ s.size - k + 2 := by
          rcases digV_gd s k hk with ⟨_, _, _, _, _, _, h⟩ | ⟨_, _, j, _, _, _, _, _, h⟩
          · exact h
          · omega
        have hnospent : ¬ y.s < y.st + ((ovN s k + 1 : Nat) : Int) := by rw [ys]; omega
        have HNS := Lib.hid hnospent
        have hlw := R.llt
        have hcw := R.clt
        rcases digV_gd s k hk with ⟨kd, pl, eg, hk0, hk3, hpl, _⟩ | ⟨v, f, j, eg, hkf, hfj, hjs, hv, hNj⟩
        · rw [eg] at KN
          simp only [eg] at KR
          have KN := Lib.hid KN
          have KR := Lib.hid KR
          have h3 := Lib.hid (fmK_pos hk0)
          have hk0' : (kd : Int) ≠ 0 := by omega
          have HK0 := Lib.hid hk0'
          have d2 : ((kd : Int) == 0) = false := by rw [beq_eq_false_iff_ne]; exact hk0'
          have d2' : ((kd : Int) != 0) = true := by rw [bne_iff_ne]; exact hk0'
          clear R g eg hN hnospent HR1 G1 yr ys yt hk0 hk0'
          go_wp2_with fail
          refine KN.out.mono ?_
          rintro e w2 ⟨q, _, _, t2, ⟨rfl, _, R2⟩ | ⟨hno, _, _⟩⟩
          · have G2 := Lib.hid (Tn.own HG.out t2 (by intro x hx; simp at hx; omega))
            clear t2 R2 KN HG
            simp only [gotT]
            rw [h3.out]
            go_wp2_with fail
            refine (KR.out _).mono ?_
            rintro e w3 ⟨rfl, g3⟩
            have F3 : Fl w2.heap.size kd 3 pl w3 := old1 g3 (by simp)
            have q0 := F3.c0
            have q1 := F3.c1
            have q2 := F3.c2
            have hlt := F3.lt
            have G3 := Lib.hid (gb_trans (gb_trans G2.out (World.grownBy_alloc _ _ none)) g3)
            clear KR G2 F3 g3
            simp only [gotA]
            go_wp2_with fail
            refine (same_bad c kd pl _ HK0.out).mono ?_
            rintro e w4 ⟨rfl, g4⟩
            have hB := old1 g4 (by simp)
            have q3 : w4.cell? ⟨w3.heap.size, 3, none⟩ = some (.int .i64 kd) := blk_cell hB 3
            have G4 := Lib.hid (gb_trans (gb_trans G3.out (World.grownBy_alloc _ _ none)) g4)
            clear g4 hB G3 q0 q1 q2
            go_wp2_with fail
            refine (fresh_calls s _ hs).mono ?_
            rintro e w6 ⟨c', l', rfl, R6, g6, hl', hc'⟩
            have HR6 := Lib.hid R6
            have G6 := Lib.hid (gb_trans G4.out g6)
            have hw6 := G4.out.size
            clear R6 g6 G4
            by_cases hz : s.size = 0
            · obtain rfl := empty_of hz
              go_wp2_with fail
              refine (one_end c' l' _ 0 _ _ HR6.out rfl (by show (0 : Int) + 1 ≤ 100000; decide) (by omega)).mono ?_
              rintro e w7 ⟨rfl, R7, t7⟩
              have G7 := Lib.hid (Tn.own G6.out t7 (by intro x hx; simp at hx; omega))
              clear R7 t7 HR6 G6
              go_wp2_with fail
              refine (awake_calls _).mono ?_
              rintro e w8 ⟨rfl, g8⟩
              have G8 := Lib.hid (gb_trans (gb_trans G7.out (World.grownBy_alloc _ _ none)) g8)
              clear g8
              go_wp2
              go_ret
              exact ⟨rfl, G8.out⟩
            · have hne := not_empty hz
              have hz0 : 0 < s.size := by omega
              have K1 := one_yes c' l' s 0 _ _ HR6.out rfl (by show (0 : Int) + 1 ≤ 100000; decide) hz0
              obtain ⟨b, hb⟩ : ∃ b, bt s 0 = b := ⟨_, rfl⟩
              have hcell := bt_cell s 0 hz0 hb
              have bl : b < 256 := by rw [← hb]; exact bt_lt s 0
              rw [hb] at K1
              have KB := fun u => rblank_calls b bl u
              cases eB : blankB b
              · rw [eB, if_neg (by decide)] at K1
                simp only [eB] at KB
                have K1 := Lib.hid K1
                have KB := Lib.hid KB
                clear hb eB hz
                go_wp2_with fail
                refine K1.out.mono ?_
                rintro e w7 ⟨rfl, R7, t7⟩
                have G7 := Lib.hid (Tn.own G6.out t7 (by intro x hx; simp at hx; omega))
                clear R7 t7 HR6 G6 K1
                go_wp2_with fail
                refine (KB.out _).mono ?_
                rintro e w' ⟨rfl, rfl⟩
                go_wp2_with fail
                refine (awake_calls _).mono ?_
                rintro e w8 ⟨rfl, g8⟩
                have G8 := Lib.hid (gb_trans (gb_trans G7.out (World.grownBy_alloc _ _ none)) g8)
                clear g8
                go_wp2
                go_ret
                exact ⟨rfl, G8.out⟩
              · rw [eB, if_pos rfl] at K1
                simp only [eB] at KB
                have K1 := Lib.hid K1
                have KB := Lib.hid KB
                clear hb eB hz
                go_wp2_with fail
                refine K1.out.mono ?_
                rintro e w7 ⟨rfl, R7, t7⟩
                have G7 := Lib.hid (Tn.own G6.out t7 (by intro x hx; simp at hx; omega))
                have HR7 := Lib.hid R7
                clear R7 t7 HR6 G6 K1
                simp only [okF]
                go_wp2_with fail
                refine (KB.out _).mono ?_
                rintro e w' ⟨rfl, rfl⟩
                go_wp2_with fail
                refine (at_rd c' l' s 1 _ _ (HR7.out.grown (World.grownBy_alloc _ _ none))).mono ?_
                rintro e w' ⟨rfl, rfl⟩
                go_wp2_with fail
                refine (awake_calls _).mono ?_
                rintro e w8 ⟨rfl, g8⟩
                have G8 := Lib.hid (gb_trans (gb_trans G7.out (World.grownBy_alloc _ _ none)) g8)
                clear g8
                go_wp2
                go_ret
                exact ⟨rfl, G8.out⟩
          · exact absurd hno (by have := HNS.out; omega)
        · rw [eg] at KN
          simp only [eg] at KR
          have KN := Lib.hid KN
          have KR := Lib.hid KR
          have HYR := Lib.hid yr
          have HYS := Lib.hid ys
          clear R g eg hN hnospent HR1 G1 yr ys
          go_wp2_with fail
          refine KN.out.mono ?_
          rintro e w2 ⟨q, _, _, t2, ⟨rfl, hq, R2⟩ | ⟨hno, _, _⟩⟩
          · obtain rfl : q = j := hq rfl
            have G2 := Lib.hid (Tn.own HG.out t2 (by intro x hx; simp at hx; omega))
            have HR2 := Lib.hid R2
            clear t2 R2 KN HG hq
            simp only [gotT, show ((fmK 0 : Nat) : Int) = 0 from rfl]
            go_wp2_with fail
            refine (KR.out _).mono ?_
            rintro e w3 ⟨rfl, g3⟩
            have F3 : Fl w2.heap.size 0 0 0 w3 := old1 g3 (by simp)
            have q0 := F3.c0
            have q1 := F3.c1
            have q2 := F3.c2
            have hlt := F3.lt
            have G3 := Lib.hid (gb_trans (gb_trans G2.out (World.grownBy_alloc _ _ none)) g3)
            have HR3 := Lib.hid ((HR2.out.grown (World.grownBy_alloc _ _ none)).grown g3)
            clear KR G2 F3 g3 HR2
            simp only [gotA]
            go_wp2_with fail
            refine (same_yes c l s q _ v f _ (HR3.out.grown (World.grownBy_alloc _ _ none))).mono ?_
            rintro e w4 ⟨rfl, g4⟩
            have hB := old1 g4 (by simp)
            have q2' : w4.cell? ⟨w3.heap.size, 2, none⟩ = some (.int .i64 q) := blk_cell hB 2
            have q3 : w4.cell? ⟨w3.heap.size, 3, none⟩ = some (.int .i64 0) := blk_cell hB 3
            have G4 := Lib.hid (gb_trans (gb_trans G3.out (World.grownBy_alloc _ _ none)) g4)
            have HR4 := Lib.hid ((HR3.out.grown (World.grownBy_alloc _ _ none)).grown g4)
            clear g4 hB G3 q0 q1 q2 HR3
            go_wp2
            go_roundg (100 - (i + 1))
            case measure => omega
            case rel => exact ⟨q, i + 1, _, hjs, by omega, rfl, rfl, by go_num, HR4.out, HYR.out, HYS.out, by rw [stp_st]; omega, G4.out⟩
          · exact absurd hno (by have := HNS.out; omega)
      · have d1 : decide ((i : Int) < 100) = false := decide_eq_false (by omega)
        have HG := Lib.hid g
        clear R g HR1 G1
        go_wp2_with fail
        refine (fresh_calls s _ hs).mono ?_
        rintro e w6 ⟨c', l', rfl, R6, g6, hl', hc'⟩
        have HR6 := Lib.hid R6
        have G6 := Lib.hid (gb_trans HG.out g6)
        have hw6 := HG.out.size
        clear R6 g6 HG
        by_cases hz : s.size = 0
        · obtain rfl := empty_of hz
          go_wp2_with fail
          refine (one_end c' l' _ 0 _ _ HR6.out rfl (by show (0 : Int) + 1 ≤ 100000; decide) (by omega)).mono ?_
          rintro e w7 ⟨rfl, R7, t7⟩
          have G7 := Lib.hid (Tn.own G6.out t7 (by intro x hx; simp at hx; omega))
          clear R7 t7 HR6 G6
          go_wp2_with fail
          refine (awake_calls _).mono ?_
          rintro e w8 ⟨rfl, g8⟩
          have G8 := Lib.hid (gb_trans (gb_trans G7.out (World.grownBy_alloc _ _ none)) g8)
          clear g8
          go_wp2
          go_ret
          exact ⟨rfl, G8.out⟩
        · have hne := not_empty hz
          have hz0 : 0 < s.size := by omega
          have K1 := one_yes c' l' s 0 _ _ HR6.out rfl (by show (0 : Int) + 1 ≤ 100000; decide) hz0
          obtain ⟨b, hb⟩ : ∃ b, bt s 0 = b := ⟨_, rfl⟩
          have hcell := bt_cell s 0 hz0 hb
          have bl : b < 256 := by rw [← hb]; exact bt_lt s 0
          rw [hb] at K1
          have KB := fun u => rblank_calls b bl u
          cases eB : blankB b
          · rw [eB, if_neg (by decide)] at K1
            simp only [eB] at KB
            have K1 := Lib.hid K1
            have KB := Lib.hid KB
            clear hb eB hz
            go_wp2_with fail
            refine K1.out.mono ?_
            rintro e w7 ⟨rfl, R7, t7⟩
            have G7 := Lib.hid (Tn.own G6.out t7 (by intro x hx; simp at hx; omega))
            clear R7 t7 HR6 G6 K1
            go_wp2_with fail
            refine (KB.out _).mono ?_
            rintro e w' ⟨rfl, rfl⟩
            go_wp2_with fail
            refine (awake_calls _).mono ?_
            rintro e w8 ⟨rfl, g8⟩
            have G8 := Lib.hid (gb_trans (gb_trans G7.out (World.grownBy_alloc _ _ none)) g8)
            clear g8
            go_wp2
            go_ret
            exact ⟨rfl, G8.out⟩
          · rw [eB, if_pos rfl] at K1
            simp only [eB] at KB
            have K1 := Lib.hid K1
            have KB := Lib.hid KB
            clear hb eB hz
            go_wp2_with fail
            refine K1.out.mono ?_
            rintro e w7 ⟨rfl, R7, t7⟩
            have G7 := Lib.hid (Tn.own G6.out t7 (by intro x hx; simp at hx; omega))
            have HR7 := Lib.hid R7
            clear R7 t7 HR6 G6 K1
            simp only [okF]
            go_wp2_with fail
            refine (KB.out _).mono ?_
            rintro e w' ⟨rfl, rfl⟩
            go_wp2_with fail
            refine (at_rd c' l' s 1 _ _ (HR7.out.grown (World.grownBy_alloc _ _ none))).mono ?_
            rintro e w' ⟨rfl, rfl⟩
            go_wp2_with fail
            refine (awake_calls _).mono ?_
            rintro e w8 ⟨rfl, g8⟩
            have G8 := Lib.hid (gb_trans (gb_trans G7.out (World.grownBy_alloc _ _ none)) g8)
            clear g8
            go_wp2
            go_ret
            exact ⟨rfl, G8.out⟩
  · have d0 : decide ((300 : Int) < s.size) = true := decide_eq_true (by omega)
    go_wp2_with fail
    refine (awake_calls _).mono ?_
    rintro e w2 ⟨rfl, g2⟩
    have G2 := Lib.hid (gb_trans G1.out g2)
    clear g2
    go_wp2
    go_ret
    exact ⟨rfl, G2.out⟩

end Go.Proofs.Ytckkkdiekamiaaa.Tk
