/- Layer 24: the law of a directory's bytes, walked (written by wip/gen/idc.py). -/
import Derived.Test.YtajbpcaghmcplaaIdH
namespace Go.Proofs.Ytajbpcaghmcplaa.Id
open Go.ChangeShapes Go.WideShapes Go.ChangeAt Go.RowKit
open Go.Proofs.Ytajbpcaghmcplaa.Le Go.Proofs.Ytajbpcaghmcplaa.Sr Go.Proofs.Ytajbpcaghmcplaa.Dh
set_option linter.unusedVariables false

set_option maxRecDepth 100000 in
set_option maxHeartbeats 8000000 in
theorem bytes_goodl (cu : Bool) (lb lo n cap : Nat) (E : Nat → Nat → Int) (W : World) (h0 : 0 < n) (hn : n ≤ 20) (HE : EnsAt lb lo n E W) (hok : ∀ i, i < n → ftE (E i) = true) :
    Calls Try.prog 5 #[.bool cu, .slice (some ⟨lb, lo, none⟩) n cap] W fun e w' => e = .returned (.bool true) ∧ W.grownBy w' none := by
  obtain ⟨t, ht⟩ : ∃ t, n = t := ⟨_, rfl⟩
  have d0 : ¬ (20 : Int) < (n : Int) := by omega
  have d1 : (0 : Int) < (n : Int) := by omega
  have KA := Lib.hid (fun u => awake_calls u)
  have HEE := Lib.hid HE
  have HOK := Lib.hid (show ∀ i, i < t → ftE (E i) = true from fun i hi => hok i (by omega))
  have HNN := Lib.hid (And.intro h0 hn)
  have HST := Lib.hid (show t = n ∨ (t < n ∧ ftE (E t) = false) from .inl ht.symm)
  have HTN := Lib.hid ht
  have KB := bytes_calls cu lb lo n cap n E W h0 (by omega) HE (Nat.le_refl _) hok (.inl rfl)
  rw [if_pos rfl] at KB
  obtain ⟨T, hT⟩ : ∃ T, txF (6 + 16 * n) (dirF cu n E n) = T := ⟨_, rfl⟩
  obtain ⟨hs, b0, b1, b2, b3, b4, b5⟩ := head_back cu n E (by omega) (by omega) T hT
  have hent := fun i hi => ent_back cu n E i hi (hok i hi)
  rw [hT] at KB hent
  have KB := Lib.hid KB
  have HENT := Lib.hid hent
  have KI := fun u => is_calls T (by omega) u
  rw [b5] at KI
  have KI := Lib.hid KI
  have KL := fun u => le2_is T 4 (by omega) u
  rw [b4] at KL
  have KL := Lib.hid KL
  have KG := Lib.hid (fun i (hi : i < n) u => get_yes T i (by omega) (by omega) u)
  have KR := Lib.hid (fun i (hi : i < n) u => rget_calls T i (by omega) (by omega) u)
  have l0 : 0 < T.size := by omega
  have l1 : 1 < T.size := by omega
  have l2 : 2 < T.size := by omega
  have l3 : 3 < T.size := by omega
  have i0 : (0 : Int) < (T.size : Int) := by omega
  have i1 : (1 : Int) < (T.size : Int) := by omega
  have i2 : (2 : Int) < (T.size : Int) := by omega
  have i3 : (3 : Int) < (T.size : Int) := by omega
  have j0 : (T[0]'l0).toNat = 0 := (bn_at T 0 l0).trans b0
  have j1 : (T[1]'l1).toNat = 0 := (bn_at T 1 l1).trans b1
  have j2 : (T[2]'l2).toNat = (if cu then 2 else 1) := (bn_at T 2 l2).trans b2
  have j3 : (T[3]'l3).toNat = 0 := (bn_at T 3 l3).trans b3
  have m1 : IntKind.i64.wrap (16 * (n : Int)) = 16 * (n : Int) := IntWalk.i64_in _ (by omega)
  have m2 : IntKind.i64.wrap (6 + 16 * (n : Int)) = 6 + 16 * (n : Int) := IntWalk.i64_in _ (by omega)
  have m3 : ((T.size : Int) != 6 + 16 * (n : Int)) = false := by rw [bne_eq_false_iff_eq]; omega
  have m4 : ((n : Int) != (n : Int)) = false := by simp
  have s1 : ∀ w, (Instr.slice 9 (.string T) (some (.int .i64 4)) (some (.int .i64 6)) none).run Try.prog w = .ok (.string (T.extract 4 (4 + 2))) w := fun w => cut_at T 4 2 (by omega) w
  clear HE hok h0 hn hT hs b0 b1 b2 b3 b4 b5 hent ht
  go_enter Try.func5, Try.ntmps5
  go_wp2_with fail
  refine KB.out.mono ?_
  rintro e w1 ⟨rfl, g1⟩
  have HG0 := Lib.hid g1
  clear g1 KB
  go_wp2_with fail
  go_loopg [7, 29] n (fun m bv iv wr => ∃ i : Nat, i ≤ n ∧ bv = .bool (decide (i ≤ t)) ∧ iv = .int .i64 (i : Nat) ∧ m = n - i ∧ W.grownBy wr none)
  case atStart => exact ⟨0, Nat.zero_le _, by first | rfl | (simp; done) | (simp; exact HNN.out.1), rfl, rfl, HG0.out⟩
  case round =>
    obtain ⟨i, hin, rfl, rfl, rfl, hG⟩ := hrel
    have HG := Lib.hid hG
    clear hG HG0
    by_cases hlt : i < n
    · have hlti : (i : Int) < (n : Int) := by omega
      have CE := HEE.out.grown HG.out i hlt
      have c0 := CE 0 (by decide)
      have c1 := CE 1 (by decide)
      have c2 := CE 2 (by decide)
      have c3 := CE 3 (by decide)
      have c4 := CE 4 (by decide)
      have c5 := CE 5 (by decide)
      rw [Nat.add_zero] at c0
      clear CE
      have FT := Lib.hid (show i < t → ftE (E i) = true from fun h => HOK.out i h)
      have FF := Lib.hid (show i = t → ftE (E i) = false from fun h => by obtain h9 | ⟨-, h9⟩ := HST.out; omega; rw [h]; exact h9)
      unfold ftE ftB sdB nmB at FT FF
      simp only [Bool.and_eq_true, decide_eq_true_eq] at FT
      obtain ⟨x0, hx0⟩ : ∃ x, E i 0 = x := ⟨_, rfl⟩
      obtain ⟨x1, hx1⟩ : ∃ x, E i 1 = x := ⟨_, rfl⟩
      obtain ⟨x2, hx2⟩ : ∃ x, E i 2 = x := ⟨_, rfl⟩
      obtain ⟨x3, hx3⟩ : ∃ x, E i 3 = x := ⟨_, rfl⟩
      obtain ⟨x4, hx4⟩ : ∃ x, E i 4 = x := ⟨_, rfl⟩
      obtain ⟨x5, hx5⟩ : ∃ x, E i 5 = x := ⟨_, rfl⟩
      rw [hx0] at c0
      rw [hx1] at c1
      rw [hx2] at c2
      rw [hx3] at c3
      rw [hx4] at c4
      rw [hx5] at c5
      rw [hx0, hx1, hx2, hx3, hx4, hx5] at FT FF
      clear hx0 hx1 hx2 hx3 hx4 hx5
      have hw1 : IntKind.i64.wrap ((i : Int) + 1) = (i : Int) + 1 := IntWalk.i64_in _ (by have := HNN.out; omega)
      have HIN := Lib.hid hin
      have hitt : i < t := by have := HTN.out; omega
      have hit : i ≤ t := by omega
      rw [decide_eq_true hit]
      obtain ⟨⟨a1, a2⟩, ⟨a3, a4⟩, ⟨a5, a6⟩, ⟨a7, a8⟩, ⟨a9, a10⟩, a11, a12⟩ := FT.out hitt
      have a6' : x2 ≤ 65535 := by omega
      have a8' : x3 ≤ 65535 := by omega
      have a10' : x4 ≤ 4294967295 := by omega
      have a12' : x5 ≤ 4294967295 := by omega
      have HIT := Lib.hid hitt
      clear FT FF hit hitt hin a6 a8 a10 a12
      go_wp2
      go_roundg (n - (i + 1))
      case measure => omega
      case rel => exact ⟨i + 1, by omega, by rw [decide_eq_true (show i + 1 ≤ t from HIT.out)], by go_num, rfl, gb_trans HG.out (World.grownBy_alloc _ _ none)⟩
    · obtain rfl : i = n := by omega
      clear hlt hin
      rw [decide_eq_true (show i ≤ t by have := HTN.out; omega)]
      cases cu
      all_goals
        go_wp2_with fail
        refine (KL.out _).mono ?_
        rintro e w' ⟨rfl, rfl⟩
        clear i0 i1 i2 i3 j0 j1 j2 j3 m1 m2 m3 m4 s1
        go_wp2_with fail
        go_loopg [156] i (fun m iv wr => ∃ k : Nat, k ≤ i ∧ m = i - k ∧ iv = .int .i64 (k : Nat) ∧ W.grownBy wr none)
        case atStart => exact ⟨0, Nat.zero_le _, rfl, rfl, HG.out⟩
        case round =>
          obtain ⟨k, hki, rfl, rfl, hG2⟩ := hrel
          have HG2 := Lib.hid hG2
          clear hG2 HG
          by_cases hlt : k < i
          · have hltk : (k : Int) < (i : Int) := by omega
            have CE := HEE.out.grown HG2.out k hlt
            have c0 := CE 0 (by decide)
            have c1 := CE 1 (by decide)
            have c2 := CE 2 (by decide)
            have c3 := CE 3 (by decide)
            have c4 := CE 4 (by decide)
            have c5 := CE 5 (by decide)
            rw [Nat.add_zero] at c0
            clear CE
            have KGk := fun u => KG.out k hlt u
            have KRk := fun u => KR.out k hlt u
            rw [HENT.out k hlt] at KGk KRk
            obtain ⟨v0, hv0⟩ : ∃ x, E k 0 = x := ⟨_, rfl⟩
            obtain ⟨v1, hv1⟩ : ∃ x, E k 1 = x := ⟨_, rfl⟩
            obtain ⟨v2, hv2⟩ : ∃ x, E k 2 = x := ⟨_, rfl⟩
            obtain ⟨v3, hv3⟩ : ∃ x, E k 3 = x := ⟨_, rfl⟩
            obtain ⟨v4, hv4⟩ : ∃ x, E k 4 = x := ⟨_, rfl⟩
            obtain ⟨v5, hv5⟩ : ∃ x, E k 5 = x := ⟨_, rfl⟩
            rw [hv0] at c0
            rw [hv1] at c1
            rw [hv2] at c2
            rw [hv3] at c3
            rw [hv4] at c4
            rw [hv5] at c5
            rw [hv0, hv1, hv2, hv3, hv4, hv5] at KGk KRk
            clear hv0 hv1 hv2 hv3 hv4 hv5
            have KGk := Lib.hid KGk
            have KRk := Lib.hid KRk
            have KP := Lib.hid (fun u => plain_calls v0 v1 v2 v3 v4 v5 u)
            have hw1 : IntKind.i64.wrap ((k : Int) + 1) = (k : Int) + 1 := IntWalk.i64_in _ (by have := HNN.out; omega)
            go_wp2_with fail
            refine (KGk.out _).mono ?_
            rintro e w3 ⟨rfl, g3⟩
            go_upto_region 18 with fail
            have X3 := blk_al (old1 g3 (by simp)) (.cells #[.int .i64 v0, .int .i64 v1, .int .i64 v2, .int .i64 v3, .int .i64 v4, .int .i64 v5] 33)
            have Y3 : (w3.alloc (.cells #[.int .i64 v0, .int .i64 v1, .int .i64 v2, .int .i64 v3, .int .i64 v4, .int .i64 v5] 33)).heap[w3.heap.size]? = some (.cells #[.int .i64 v0, .int .i64 v1, .int .i64 v2, .int .i64 v3, .int .i64 v4, .int .i64 v5] 33 (0, 0)) := blk_at
            have G3 := Lib.hid (gb_trans HG2.out (gb_trans (World.grownBy_alloc _ (.cells #[.int .i64 v0, .int .i64 v1, .int .i64 v2, .int .i64 v3, .int .i64 v4, .int .i64 v5] 33) none) (gb_trans g3 (World.grownBy_alloc w3 (.cells #[.int .i64 v0, .int .i64 v1, .int .i64 v2, .int .i64 v3, .int .i64 v4, .int .i64 v5] 33) none))))
            obtain ⟨X, hX⟩ : ∃ X, wr.heap.size = X := ⟨_, rfl⟩
            rw [hX] at X3 ⊢
            obtain ⟨Y, hY⟩ : ∃ Y, w3.heap.size = Y := ⟨_, rfl⟩
            rw [hY] at Y3 ⊢
            generalize w3.alloc _ = w4 at X3 Y3 G3 ⊢
            clear c0 c1 c2 c3 c4 c5 g3 hX hY KGk
            have x0 := blk_cell X3 0
            have y0 := blk_cell Y3 0
            have x1 := blk_cell X3 1
            have y1 := blk_cell Y3 1
            have x2 := blk_cell X3 2
            have y2 := blk_cell Y3 2
            have x3 := blk_cell X3 3
            have y3 := blk_cell Y3 3
            have x4 := blk_cell X3 4
            have y4 := blk_cell Y3 4
            have x5 := blk_cell X3 5
            have y5 := blk_cell Y3 5
            simp only [List.getElem?_toArray, List.getElem?_cons_succ, List.getElem?_cons_zero] at x0 y0 x1 y1 x2 y2 x3 y3 x4 y4 x5 y5
            have HXY := Lib.hid (And.intro X3 Y3)
            have KEEP := Lib.hid (fun (u : World) (g : w4.grownBy u none) => (And.intro (old0 g HXY.out.1 (blk_lt HXY.out.1) (by simp)) (old0 g HXY.out.2 (blk_lt HXY.out.2) (by simp))))
            clear X3 Y3
            go_region_held3 (fun u => u.cell? ⟨X, 0, none⟩ = some (.int .i64 v0) ∧ u.cell? ⟨X, 1, none⟩ = some (.int .i64 v1) ∧ u.cell? ⟨X, 2, none⟩ = some (.int .i64 v2) ∧ u.cell? ⟨X, 3, none⟩ = some (.int .i64 v3) ∧ u.cell? ⟨X, 4, none⟩ = some (.int .i64 v4) ∧ u.cell? ⟨X, 5, none⟩ = some (.int .i64 v5) ∧ u.cell? ⟨Y, 0, none⟩ = some (.int .i64 v0) ∧ u.cell? ⟨Y, 1, none⟩ = some (.int .i64 v1) ∧ u.cell? ⟨Y, 2, none⟩ = some (.int .i64 v2) ∧ u.cell? ⟨Y, 3, none⟩ = some (.int .i64 v3) ∧ u.cell? ⟨Y, 4, none⟩ = some (.int .i64 v4) ∧ u.cell? ⟨Y, 5, none⟩ = some (.int .i64 v5)) (go_keep)
              (first
                | (go_at_call 16; with_reducible refine (KRk.out _).mono ?_; rintro e u1 ⟨rfl, gx⟩; have G5 := Lib.hid (show w4.grownBy u1 none from gb_trans (gb_drew _ _) gx); have I5 := KEEP.out _ G5.out; have a0 := blk_cell I5.1 0; have b0 := blk_cell I5.2 0; have a1 := blk_cell I5.1 1; have b1 := blk_cell I5.2 1; have a2 := blk_cell I5.1 2; have b2 := blk_cell I5.2 2; have a3 := blk_cell I5.1 3; have b3 := blk_cell I5.2 3; have a4 := blk_cell I5.1 4; have b4 := blk_cell I5.2 4; have a5 := blk_cell I5.1 5; have b5 := blk_cell I5.2 5; simp only [List.getElem?_toArray, List.getElem?_cons_succ, List.getElem?_cons_zero] at a0 b0 a1 b1 a2 b2 a3 b3 a4 b4 a5 b5; clear gx I5)
                | (go_at_call 12; with_reducible refine (KP.out _).mono ?_; rintro e u2 ⟨rfl, gx⟩; have G6 := Lib.hid (show w4.grownBy u2 none from gb_trans G5.out gx); have I6 := KEEP.out _ G6.out; have p0 := blk_cell I6.1 0; have q0 := blk_cell I6.2 0; have p1 := blk_cell I6.1 1; have q1 := blk_cell I6.2 1; have p2 := blk_cell I6.1 2; have q2 := blk_cell I6.2 2; have p3 := blk_cell I6.1 3; have q3 := blk_cell I6.2 3; have p4 := blk_cell I6.1 4; have q4 := blk_cell I6.2 4; have p5 := blk_cell I6.1 5; have q5 := blk_cell I6.2 5; simp only [List.getElem?_toArray, List.getElem?_cons_succ, List.getElem?_cons_zero] at p0 q0 p1 q1 p2 q2 p3 q3 p4 q4 p5 q5; clear gx I6))
            all_goals
              have G9 := Lib.hid (gb_trans G3.out G6.out)
              clear G5 G6 G3
              go_wp2
              go_roundg (i - (k + 1))
              case measure => omega
              case rel => exact ⟨k + 1, by omega, rfl, by go_num, G9.out⟩
          · obtain rfl : k = i := by omega
            clear hlt hki KG KR HENT
            go_wp2_with fail
            refine (KI.out _).mono ?_
            rintro e w' ⟨rfl, rfl⟩
            go_wp2_with fail
            refine (KA.out _).mono ?_
            rintro e w3 ⟨rfl, g3⟩
            have G3 := Lib.hid (gb_trans HG2.out g3)
            clear g3
            go_wp2
            go_ret
            exact ⟨rfl, G3.out⟩

theorem bytes_any (cu : Bool) (a : Option Addr) (lb lo n cap : Nat) (E : Nat → Nat → Int) (W : World) (ha : 0 < n → a = some ⟨lb, lo, none⟩) (HE : EnsAt lb lo n E W) :
    Calls Try.prog 5 #[.bool cu, .slice a n cap] W fun e w' => e = .returned (.bool true) ∧ W.grownBy w' none := by
  by_cases h20 : 20 < n
  · exact bytes_far cu a n cap h20 W
  by_cases h0 : 0 < n
  · obtain rfl := ha h0
    have : ∀ m, m ≤ n → (∀ i, i < n - m → ftE (E i) = true) → (∀ i, i < n → ftE (E i) = true) ∨ ∃ t, t < n ∧ (∀ i, i < t → ftE (E i) = true) ∧ ftE (E t) = false := by
      intro m
      induction m with
      | zero => intro _ h; exact .inl h
      | succ m ih =>
        intro hm h
        cases hk : ftE (E (n - (m + 1))) with
        | true => exact ih (by omega) (fun i hi => by
            by_cases e : i = n - (m + 1)
            · rw [e]; exact hk
            · exact h i (by omega))
        | false => exact .inr ⟨n - (m + 1), by omega, h, hk⟩
    rcases this n (Nat.le_refl _) (fun i hi => absurd hi (by omega)) with hok | ⟨t, ht, hok, hbad⟩
    · exact bytes_goodl cu lb lo n cap E W h0 (by omega) HE hok
    · exact bytes_badl cu lb lo n cap t E W h0 (by omega) HE ht hok hbad
  · obtain rfl : n = 0 := by omega
    exact bytes_zero cu a cap W

end Go.Proofs.Ytajbpcaghmcplaa.Id
