/- The law TokenBlanks, walked. -/
import Derived.Test.YtckkkdiekamiaaaTokD
namespace Go.Proofs.Ytckkkdiekamiaaa.Tk
open Go.ChangeShapes Go.WideShapes Go.ChangeAt Go.RowKit
open Go.Proofs.Ytckkkdiekamiaaa.Le Go.Proofs.Ytckkkdiekamiaaa.Sr
set_option linter.unusedVariables false

theorem Rd.turned {c l : Nat} {s : ByteArray} {p : Nat} {x : St} {w w' : World} {S : List Nat} (h : Rd c l s p x w) (t : Tn w w' S) (h1 : c ∉ S) (h2 : l ∉ S) : Rd c l s p x w' :=
  ⟨h.so.turned t h1, h.led.turned t h2, h.ok⟩
theorem ovN_le (s : ByteArray) (k : Nat) (hk : k ≤ s.size) : ovN s k ≤ s.size - k + 1 := by
  have h2 := overV_le s _ k rfl hk
  unfold ovN
  split <;> omega
theorem line_end (B : ByteArray) : bt (B ++ ⟨#[10]⟩) ((B ++ (⟨#[10]⟩ : ByteArray)).size - 1) = 10 := by
  have e : (B ++ (⟨#[10]⟩ : ByteArray)).size - 1 = B.size + 0 := by
    rw [app_size]
    show B.size + 1 - 1 = _
    omega
  rw [e, bt_app_ge]
  decide

set_option maxRecDepth 100000 in
set_option maxHeartbeats 4000000 in
theorem blanks_walk (B S : ByteArray) (W : World) (hBs : B.size ≤ 9223372036854775807) (hSs : S.size ≤ 9223372036854775807) :
    Calls Try.prog 5 #[.string B, .string S] W fun e w' => e = .returned (.bool true) ∧ W.grownBy w' none := by
  by_cases hB : B.size ≤ 100
  · by_cases hS : S.size ≤ 100
    · have d0 : decide ((100 : Int) < B.size) = false := decide_eq_false (by omega)
      have d1 : decide ((100 : Int) < S.size) = false := decide_eq_false (by omega)
      have z1 : (B ++ (⟨#[32]⟩ : ByteArray)).size = B.size + 1 := app_size _ _
      have zA : (B ++ (⟨#[10]⟩ : ByteArray)).size = B.size + 1 := app_size _ _
      have ad1 : ∀ w, (Op.stringOp .add B ⟨#[32]⟩).run Try.prog w = .ok (.string (B ++ ⟨#[32]⟩)) w := fun w => run_string_add_sum w _ _ (by show B.size + 1 ≤ _; omega)
      have adA : ∀ w, (Op.stringOp .add B ⟨#[10]⟩).run Try.prog w = .ok (.string (B ++ ⟨#[10]⟩)) w := fun w => run_string_add_sum w _ _ (by show B.size + 1 ≤ _; omega)
      have adZ : ∀ w, (Op.stringOp .add (B ++ ⟨#[10]⟩) S).run Try.prog w = .ok (.string (B ++ ⟨#[10]⟩ ++ S)) w := fun w => run_string_add_sum w _ _ (by rw [zA]; omega)
      have hle := line_end B
      obtain ⟨B1, hB1⟩ : ∃ z, B ++ (⟨#[32]⟩ : ByteArray) = z := ⟨_, rfl⟩
      obtain ⟨A, hA⟩ : ∃ z, B ++ (⟨#[10]⟩ : ByteArray) = z := ⟨_, rfl⟩
      rw [hB1] at z1 ad1
      rw [hA] at zA adA adZ hle
      clear hB1 hA
      have hin := overV_in S hle
      have zZ : (A ++ S).size = A.size + S.size := app_size A S
      have hga := gotV_app (A := A) S 0
      obtain ⟨Z, hZ⟩ : ∃ z, A ++ S = z := ⟨_, rfl⟩
      rw [hZ] at adZ zZ hga
      simp only [hZ] at hin
      have HIN := Lib.hid hin
      have HGA := Lib.hid hga
      clear hZ hle hin hga
      have K1 := Lib.hid (fun u => rover_calls B1 0 u (by omega) (Nat.zero_le _))
      have K2 := Lib.hid (fun u => rover_calls B 0 u (by omega) (Nat.zero_le _))
      have K3 := Lib.hid (fun u => rover_calls A 0 u (by omega) (Nat.zero_le _))
      have K4 := Lib.hid (fun u => rover_calls Z 0 u (by omega) (Nat.zero_le _))
      obtain ⟨n, hn⟩ : ∃ n, overV B1 0 = n := ⟨_, rfl⟩
      obtain ⟨o2, ho2⟩ : ∃ n, overV B 0 = n := ⟨_, rfl⟩
      obtain ⟨o3, ho3⟩ : ∃ n, overV A 0 = n := ⟨_, rfl⟩
      obtain ⟨oz, hoz⟩ : ∃ n, overV Z 0 = n := ⟨_, rfl⟩
      have hle1 := overV_le B1 _ 0 rfl (Nat.zero_le _)
      have hle4 := overV_le Z _ 0 rfl (Nat.zero_le _)
      rw [hn] at K1 hle1
      rw [ho2] at K2
      rw [ho3] at K3
      rw [hoz] at K4 hle4
      have HO3 := Lib.hid ho3
      have HOZ := Lib.hid hoz
      clear hn ho2 ho3 hoz
      by_cases hok : n = B.size + 1 ∧ o2 = B.size
      · obtain ⟨h1, h2⟩ := hok
        have t1 : ((n : Int) != (B.size : Int) + 1) = false := by rw [bne_eq_false_iff_eq]; omega
        have t1' : ((n : Int) == (B.size : Int) + 1) = true := by rw [beq_iff_eq]; omega
        have t2 : ((o2 : Int) != (B.size : Int)) = false := by rw [bne_eq_false_iff_eq]; omega
        have t2' : ((o2 : Int) == (B.size : Int)) = true := by rw [beq_iff_eq]; omega
        go_enter Try.func5, Try.ntmps5
        go_wp2_with fail
        refine (K1.out _).mono ?_
        rintro e w' ⟨rfl, rfl⟩
        go_wp2_with fail
        refine (K2.out _).mono ?_
        rintro e w' ⟨rfl, rfl⟩
        go_wp2_with fail
        refine (fresh_calls Z _ (by omega)).mono ?_
        rintro e w1 ⟨cx, lx, rfl, RX, g1, hlx, hcx⟩
        have HX1 := Lib.hid RX
        have G1 := Lib.hid g1
        have cx1 := RX.clt
        have lx1 := RX.llt
        clear RX g1
        go_wp2_with fail
        refine (fresh_calls S _ (by omega)).mono ?_
        rintro e w2 ⟨cy, ly, rfl, RY, g2, hly, hcy⟩
        have HY2 := Lib.hid RY
        have HX2 := Lib.hid (HX1.out.grown g2)
        have G2 := Lib.hid (gb_trans G1.out g2)
        have w12 := g2.size
        have cy2 := RY.clt
        have ly2 := RY.llt
        clear RY g2 HX1 G1
        go_wp2_with fail
        refine (K3.out _).mono ?_
        rintro e w' ⟨rfl, rfl⟩
        by_cases h3 : o3 = n
        · have t3 : ((o3 : Int) != (n : Int)) = false := by rw [bne_eq_false_iff_eq]; omega
          have t3' : ((o3 : Int) == (n : Int)) = true := by rw [beq_iff_eq]; omega
          have hZ0 : oz = A.size + overV S 0 := by rw [← HOZ.out]; exact HIN.out _ 0 rfl (Nat.zero_le _) (by rw [HO3.out]; omega)
          have hG := HGA.out (by rw [HOZ.out]; exact hZ0)
          have HG := Lib.hid hG
          clear hG hZ0
          go_wp2_with fail
          refine (fresh_calls Z _ (by omega)).mono ?_
          rintro e w3 ⟨cz, lz, rfl, RZ, g3, hlz, hcz⟩
          have KO := Lib.hid (over_calls cz lz Z 0 _ w3 RZ rfl)
          have HX3 := Lib.hid (HX2.out.grown g3)
          have HY3 := Lib.hid (HY2.out.grown g3)
          have G3 := Lib.hid (gb_trans G2.out g3)
          have w23 := g3.size
          clear RZ g3 HX2 HY2 G2
          go_wp2_with fail
          refine KO.out.mono ?_
          rintro e w4 ⟨q, _, _, t4, ⟨rfl, hq, RZ4⟩ | ⟨hno, _, _⟩⟩
          · obtain rfl := hq.trans HOZ.out
            have HX4 := Lib.hid ((HX3.out.turned t4 (by simp; omega) (by simp; omega)).grown (World.grownBy_alloc w4 (.cells #[.int .i64 0, .int .i64 0, .int .i64 0] 26) none))
            have HY4 := Lib.hid ((HY3.out.turned t4 (by simp; omega) (by simp; omega)).grown (World.grownBy_alloc w4 (.cells #[.int .i64 0, .int .i64 0, .int .i64 0] 26) none))
            have HZ4 := Lib.hid (RZ4.grown (World.grownBy_alloc w4 (.cells #[.int .i64 0, .int .i64 0, .int .i64 0] 26) none))
            have G4 := Lib.hid (gb_trans (Tn.own G3.out t4 (by intro x hx; simp at hx; omega)) (World.grownBy_alloc w4 (.cells #[.int .i64 0, .int .i64 0, .int .i64 0] 26) none))
            clear t4 RZ4 hq HX3 HY3 G3 KO
            simp only [okF]
            go_wp2_with fail
            refine (at_rd cz lz Z q _ _ HZ4.out).mono ?_
            rintro e w' ⟨rfl, rfl⟩
            go_wp2_with fail
            refine (K4.out _).mono ?_
            rintro e w' ⟨rfl, rfl⟩
            have hno1 : ¬ (LW 100000 0).s < (LW 100000 0).st + (numN Z 0 : Int) := by
              have := numN_le Z 0 (Nat.zero_le _)
              rw [show (LW 100000 0).s = 100000 from rfl, show (LW 100000 0).st = 0 from rfl]
              omega
            have hno2 : ¬ (LW 100000 0).s < (LW 100000 0).st + (numN S 0 : Int) := by
              have := numN_le S 0 (Nat.zero_le _)
              rw [show (LW 100000 0).s = 100000 from rfl, show (LW 100000 0).st = 0 from rfl]
              omega
            have HN1 := Lib.hid (Int.not_lt.1 hno1)
            have HN2 := Lib.hid (Int.not_lt.1 hno2)
            have KX := number_calls cx lx Z 0 _ _ HX4.out rfl
            have KY := fun u h => number_calls cy ly S 0 (LW 100000 0) u h rfl
            have zA' : A.size = n := by omega
            clear hno1 hno2
            rcases gotV_gd S 0 (Nat.zero_le _) with ⟨kd, pl, eg, hk0, hk3, hpl, _⟩ | ⟨v, f, j, eg, hkf, hfj, hjs, hv, hNj⟩
            · obtain ⟨ap, hap⟩ : ∃ ap, A.size + pl = ap := ⟨_, rfl⟩
              have hGZ : gotV Z 0 = ⟨0, 0, 0, kd, ap⟩ := by
                rw [HG.out, eg, ← hap]
                exact if_neg hk0
              rw [hGZ] at KX
              simp only [eg] at KY
              have KX := Lib.hid KX
              have KY := Lib.hid KY
              have h3' := Lib.hid (fmK_pos hk0)
              have d5 : ((kd : Int) == 0) = false := by rw [beq_eq_false_iff_ne]; omega
              have d5' : ((kd : Int) != 0) = true := by rw [bne_iff_ne]; omega
              have d6 : ((ap : Int) == (pl : Int) + (n : Int)) = true := by rw [beq_iff_eq]; omega
              clear eg hGZ HG HX4
              go_wp2_with fail
              refine KX.out.mono ?_
              rintro e w5 ⟨qx, _, _, t5, ⟨rfl, _, _⟩ | ⟨hno, _, _⟩⟩
              · have hs5 := t5.size
                rw [size_alloc] at hs5
                have w34 := HY4.out.clt
                rw [size_alloc] at w34
                have w34' := HY4.out.llt
                rw [size_alloc] at w34'
                have HY5 := Lib.hid (HY4.out.turned t5 (by simp; omega) (by simp; omega))
                have G5 := Lib.hid (Tn.own G4.out t5 (by intro x hx; simp at hx; omega))
                have cy5 := HY5.out.clt
                have ly5 := HY5.out.llt
                clear t5 KX HY4 G4
                simp only [gotT]
                rw [h3'.out]
                go_wp2_with fail
                refine (KY.out _ (HY5.out.grown (World.grownBy_alloc _ _ none))).mono ?_
                rintro e w6 ⟨qy, _, _, t6, ⟨rfl, _, _⟩ | ⟨hno, _, _⟩⟩
                · have F6 : Fl w5.heap.size kd 3 ap w6 := Fl.turned (blk_at) t6 (by simp; omega)
                  have q0 := F6.c0
                  have q1 := F6.c1
                  have q2 := F6.c2
                  have hlt := F6.lt
                  have G6 := Lib.hid (Tn.own (gb_trans G5.out (World.grownBy_alloc _ _ none)) t6 (by intro x hx; simp at hx; omega))
                  clear t6 F6 G5 HY5 KY
                  simp only [gotT]
                  rw [h3'.out]
                  go_wp2_with fail
                  refine (awake_calls _).mono ?_
                  rintro e w7 ⟨rfl, g7⟩
                  have G7 := Lib.hid (gb_trans (gb_trans G6.out (World.grownBy_alloc _ _ none)) g7)
                  clear g7
                  go_wp2
                  go_ret
                  exact ⟨rfl, G7.out⟩
                · exact absurd hno (Int.not_lt.2 HN2.out)
              · exact absurd hno (Int.not_lt.2 HN1.out)
            · obtain ⟨ap, hap⟩ : ∃ ap, A.size + f = ap := ⟨_, rfl⟩
              have hGZ : gotV Z 0 = ⟨v, ap, A.size + j, 0, 0⟩ := by
                rw [HG.out, eg, ← hap]
                exact if_pos rfl
              rw [hGZ] at KX
              simp only [eg] at KY
              have KX := Lib.hid KX
              have KY := Lib.hid KY
              have d6 : ((ap : Int) == (f : Int) + (n : Int)) = true := by rw [beq_iff_eq]; omega
              clear eg hGZ HG HX4
              go_wp2_with fail
              refine KX.out.mono ?_
              rintro e w5 ⟨qx, _, _, t5, ⟨rfl, _, _⟩ | ⟨hno, _, _⟩⟩
              · have hs5 := t5.size
                rw [size_alloc] at hs5
                have w34 := HY4.out.clt
                rw [size_alloc] at w34
                have w34' := HY4.out.llt
                rw [size_alloc] at w34'
                have HY5 := Lib.hid (HY4.out.turned t5 (by simp; omega) (by simp; omega))
                have G5 := Lib.hid (Tn.own G4.out t5 (by intro x hx; simp at hx; omega))
                have cy5 := HY5.out.clt
                have ly5 := HY5.out.llt
                clear t5 KX HY4 G4
                simp only [gotT, show ((fmK 0 : Nat) : Int) = 0 from rfl]
                go_wp2_with fail
                refine (KY.out _ (HY5.out.grown (World.grownBy_alloc _ _ none))).mono ?_
                rintro e w6 ⟨qy, _, _, t6, ⟨rfl, _, _⟩ | ⟨hno, _, _⟩⟩
                · have F6 : Fl w5.heap.size 0 0 0 w6 := Fl.turned (blk_at) t6 (by simp; omega)
                  have q0 := F6.c0
                  have q1 := F6.c1
                  have q2 := F6.c2
                  have hlt := F6.lt
                  have G6 := Lib.hid (Tn.own (gb_trans G5.out (World.grownBy_alloc _ _ none)) t6 (by intro x hx; simp at hx; omega))
                  clear t6 F6 G5 HY5 KY
                  simp only [gotT, show ((fmK 0 : Nat) : Int) = 0 from rfl]
                  go_wp2_with fail
                  refine (awake_calls _).mono ?_
                  rintro e w7 ⟨rfl, g7⟩
                  have G7 := Lib.hid (gb_trans (gb_trans G6.out (World.grownBy_alloc _ _ none)) g7)
                  clear g7
                  go_wp2
                  go_ret
                  exact ⟨rfl, G7.out⟩
                · exact absurd hno (Int.not_lt.2 HN2.out)
              · exact absurd hno (Int.not_lt.2 HN1.out)
          · have := ovN_le Z 0 (Nat.zero_le _)
            rw [show (LW 100000 0).s = 100000 from rfl, show (LW 100000 0).st = 0 from rfl] at hno
            omega
        · have t3 : ((o3 : Int) != (n : Int)) = true := by rw [bne_iff_ne]; omega
          have t3' : ((o3 : Int) == (n : Int)) = false := by rw [beq_eq_false_iff_ne]; omega
          go_wp2_with fail
          refine (awake_calls _).mono ?_
          rintro e w3 ⟨rfl, g3⟩
          have G3 := Lib.hid (gb_trans G2.out g3)
          clear g3
          go_wp2
          go_ret
          exact ⟨rfl, G3.out⟩
      · by_cases h1 : n = B.size + 1
        · have h2 : o2 ≠ B.size := fun h => hok ⟨h1, h⟩
          have t1 : ((n : Int) != (B.size : Int) + 1) = false := by rw [bne_eq_false_iff_eq]; omega
          have t1' : ((n : Int) == (B.size : Int) + 1) = true := by rw [beq_iff_eq]; omega
          have t2 : ((o2 : Int) != (B.size : Int)) = true := by rw [bne_iff_ne]; omega
          have t2' : ((o2 : Int) == (B.size : Int)) = false := by rw [beq_eq_false_iff_ne]; omega
          clear hok
          go_enter Try.func5, Try.ntmps5
          go_wp2_with fail
          refine (K1.out _).mono ?_
          rintro e w' ⟨rfl, rfl⟩
          go_wp2_with fail
          refine (K2.out _).mono ?_
          rintro e w' ⟨rfl, rfl⟩
          go_wp2_with fail
          refine (awake_calls _).mono ?_
          rintro e w3 ⟨rfl, g3⟩
          have G3 := Lib.hid g3
          clear g3
          go_wp2
          go_ret
          exact ⟨rfl, G3.out⟩
        · have t1 : ((n : Int) != (B.size : Int) + 1) = true := by rw [bne_iff_ne]; omega
          have t1' : ((n : Int) == (B.size : Int) + 1) = false := by rw [beq_eq_false_iff_ne]; omega
          clear hok
          go_enter Try.func5, Try.ntmps5
          go_wp2_with fail
          refine (K1.out _).mono ?_
          rintro e w' ⟨rfl, rfl⟩
          go_wp2_with fail
          refine (awake_calls _).mono ?_
          rintro e w3 ⟨rfl, g3⟩
          have G3 := Lib.hid g3
          clear g3
          go_wp2
          go_ret
          exact ⟨rfl, G3.out⟩
    · have d0 : decide ((100 : Int) < B.size) = false := decide_eq_false (by omega)
      have d1 : decide ((100 : Int) < S.size) = true := decide_eq_true (by omega)
      go_enter Try.func5, Try.ntmps5
      go_wp2_with fail
      refine (awake_calls _).mono ?_
      rintro e w2 ⟨rfl, g2⟩
      have G2 := Lib.hid g2
      clear g2
      go_wp2
      go_ret
      exact ⟨rfl, G2.out⟩
  · have d0 : decide ((100 : Int) < B.size) = true := decide_eq_true (by omega)
    go_enter Try.func5, Try.ntmps5
    go_wp2_with fail
    refine (awake_calls _).mono ?_
    rintro e w2 ⟨rfl, g2⟩
    have G2 := Lib.hid g2
    clear g2
    go_wp2
    go_ret
    exact ⟨rfl, G2.out⟩

end Go.Proofs.Ytckkkdiekamiaaa.Tk
