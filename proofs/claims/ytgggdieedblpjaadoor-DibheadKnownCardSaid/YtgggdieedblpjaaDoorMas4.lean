/- Layer 9: the document's Find, walked. -/
import Derived.Test.YtgggdieedblpjaaDoorMas2
import Derived.Test.YtgggdieedblpjaaDoorSca2
namespace Go.Proofs.YtgggdieedblpjaaDoor.Ma
open Go.ChangeShapes Go.WideShapes Go.ChangeAt Go.RowKit
open Go.Proofs.YtgggdieedblpjaaDoor.Sc
set_option linter.unusedVariables false

theorem runs_le (w : Nat) : ∀ i, runs w i ≤ i ∧ frm w i ≤ i
  | 0 => ⟨Nat.le_refl _, Nat.le_refl _⟩
  | i + 1 => by
    obtain ⟨a, b⟩ := runs_le w i
    have : (starts w i).toNat ≤ 1 := by cases starts w i <;> decide
    refine ⟨by show runs w i + (starts w i).toNat ≤ i + 1; omega, ?_⟩
    show (if starts w i then i else frm w i) ≤ i + 1
    split <;> omega

/-- What the document's Find tells of a word: where, how many, an error's number. -/
def findV (w n : Nat) : Int × Int × Int := if 1 < runs w n then (0, 0, 6) else ((frm w n : Int), (cnt w n : Int), 0)

set_option maxRecDepth 100000 in
set_option maxHeartbeats 2000000 in
theorem rfind_calls (w n : Nat) (W : World) (hn : n = 16 ∨ n = 32) (h : (w : Int) < pw n) :
    Calls Tryd.prog 65 #[.int .i64 w, .int .i64 n] W fun e w' => e = .returned (.tuple #[.int .i64 (findV w n).1, .int .i64 (findV w n).2.1, .int .i64 (findV w n).2.2]) ∧ W = w' := by
  have P := power_calls n W (by omega)
  obtain ⟨b0, b1⟩ := pw_le (show n ≤ 32 by omega)
  obtain ⟨p, hp⟩ : ∃ p, pw n = p := ⟨_, rfl⟩
  rw [hp] at P b0 b1 h
  have P' := Lib.hid P
  obtain ⟨F, hF⟩ : ∃ F, findV w n = F := ⟨_, rfl⟩
  have HF := Lib.hid hF
  rw [hF]
  have n32 : n ≤ 32 := by omega
  have hn1 : ((n : Int) != 16) = false ∨ ((n : Int) != 16) = true ∧ ((n : Int) != 32) = false := by
    rcases hn with rfl | rfl
    · exact .inl rfl
    · exact .inr ⟨rfl, rfl⟩
  clear P hp hF hn
  rcases hn1 with e1 | ⟨e1, e2⟩
  all_goals
    go_enter Tryd.func65, Tryd.ntmps65
    go_wp2_with fail
    refine P'.out.mono ?_
    rintro e w' ⟨rfl, rfl⟩
    go_wp2_with fail
    go_loop [7, 8, 9, 10] (fun f c r i => ∃ k a b d : Nat, k ≤ n ∧ i = .int .i64 (k : Int) ∧ f = .int .i64 (a : Int) ∧ c = .int .i64 (b : Int) ∧ r = .int .i64 (d : Int) ∧ frm w k = a ∧ cnt w k = b ∧ runs w k = d) (fun _ _ _ i => n - (intOf i).toNat)
    case atStart => exact ⟨0, 0, 0, 0, by omega, rfl, rfl, rfl, rfl, rfl, rfl, rfl⟩
    case round =>
      obtain ⟨k, a, b, d, hk, rfl, rfl, rfl, rfl, ha, hb, hd⟩ := hrel
      by_cases hlt : k < n
      · have B := bit_calls w k W (by omega)
        rw [bitI_nat] at B
        have q1 := cnt_le w k
        obtain ⟨q2, q3⟩ := runs_le w k
        rw [hb] at q1
        rw [hd] at q2
        rw [ha] at q3
        have s1 : cnt w (k + 1) = b + bitN w k := by rw [← hb]; rfl
        have s2 : runs w (k + 1) = d + (starts w k).toNat := by rw [← hd]; rfl
        have s3 : frm w (k + 1) = if starts w k then k else a := by rw [← ha]; rfl
        have hbb := bitN_lt w k
        clear ha hb hd
        by_cases h1 : bitN w k = 1
        · rw [decide_eq_true h1] at B
          have B' := Lib.hid B
          rw [h1] at s1
          by_cases hk0 : k = 0
          · subst hk0
            have hst : starts w 0 = true := by unfold starts; simp [h1]
            rw [hst] at s2 s3
            simp only [if_true, Bool.toNat_true] at s2 s3
            have S1 := Lib.hid s1
            have S2 := Lib.hid s2
            have S3 := Lib.hid s3
            clear B s1 s2 s3 h1 hst hbb
            go_wp2_with fail
            refine B'.out.mono ?_
            rintro e w' ⟨rfl, rfl⟩
            go_wp2_with fail
            go_round
            case rel => exact ⟨0 + 1, 0, b + 1, d + 1, by omega, by go_num, by first | rfl | go_num, by go_num, by go_num, S3.out, S1.out, S2.out⟩
            case measure => simp [intOf]; omega
          · have D := bit_calls w (k - 1) W (by omega)
            rw [bitI_nat] at D
            have ek : ((k - 1 : Nat) : Int) = (k : Int) - 1 := by omega
            rw [ek] at D
            have hkz : ((k : Int) == 0) = false := by rw [beq_eq_false_iff_ne]; omega
            by_cases h2 : bitN w (k - 1) = 1
            · rw [decide_eq_true h2] at D
              have D' := Lib.hid D
              have hst : starts w k = false := by unfold starts; simp [h1, h2, hk0]
              rw [hst] at s2 s3
              simp only [Bool.false_eq_true, if_false, Bool.toNat_false] at s2 s3
              have S1 := Lib.hid s1
              have S2 := Lib.hid s2
              have S3 := Lib.hid s3
              clear B D s1 s2 s3 h1 h2 hst hbb ek
              go_wp2_with fail
              refine B'.out.mono ?_
              rintro e w' ⟨rfl, rfl⟩
              go_wp2_with fail
              refine D'.out.mono ?_
              rintro e w' ⟨rfl, rfl⟩
              go_wp2_with fail
              go_round
              case rel => exact ⟨k + 1, a, b + 1, d, by omega, by go_num, rfl, by go_num, rfl, S3.out, S1.out, S2.out⟩
              case measure => simp [intOf]; omega
            · rw [decide_eq_false h2] at D
              have D' := Lib.hid D
              have hst : starts w k = true := by unfold starts; simp [h1, h2]
              rw [hst] at s2 s3
              simp only [if_true, Bool.toNat_true] at s2 s3
              have S1 := Lib.hid s1
              have S2 := Lib.hid s2
              have S3 := Lib.hid s3
              clear B D s1 s2 s3 h1 h2 hst hbb ek
              go_wp2_with fail
              refine B'.out.mono ?_
              rintro e w' ⟨rfl, rfl⟩
              go_wp2_with fail
              refine D'.out.mono ?_
              rintro e w' ⟨rfl, rfl⟩
              go_wp2_with fail
              go_round
              case rel => exact ⟨k + 1, k, b + 1, d + 1, by omega, by go_num, rfl, by go_num, by go_num, S3.out, S1.out, S2.out⟩
              case measure => simp [intOf]; omega
        · rw [decide_eq_false h1] at B
          have B' := Lib.hid B
          have hst : starts w k = false := by unfold starts; simp [h1]
          rw [hst] at s2 s3
          rw [show bitN w k = 0 from by omega, Nat.add_zero] at s1
          simp only [Bool.false_eq_true, if_false, Bool.toNat_false] at s2 s3
          have S1 := Lib.hid s1
          have S2 := Lib.hid s2
          have S3 := Lib.hid s3
          clear B s1 s2 s3 h1 hst hbb
          go_wp2_with fail
          refine B'.out.mono ?_
          rintro e w' ⟨rfl, rfl⟩
          go_wp2_with fail
          go_round
          case rel => exact ⟨k + 1, a, b, d, by omega, by go_num, rfl, rfl, rfl, S3.out, S1.out, S2.out⟩
          case measure => simp [intOf]; omega
      · have hkn : k = n := by omega
        subst hkn
        have hF := HF.out
        unfold findV at hF
        rw [ha, hb, hd] at hF
        clear ha hb hd
        by_cases hd1 : 1 < d
        · rw [if_pos hd1] at hF
          subst hF
          go_wp2
          refine bodyPost_ret (v := .tuple #[.int .i64 0, .int .i64 0, .int .i64 6]) (by simp [results, Tryd.results65, go_sem]) rfl ⟨rfl, rfl⟩
        · rw [if_neg hd1] at hF
          subst hF
          go_wp2
          refine bodyPost_ret (v := .tuple #[.int .i64 a, .int .i64 b, .int .i64 0]) (by simp [results, Tryd.results65, go_sem]) rfl ⟨rfl, rfl⟩

end Go.Proofs.YtgggdieedblpjaaDoor.Ma
