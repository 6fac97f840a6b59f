/- Layer 24: Get, Is, the chapter's example (written by wip/gen/idc.py). -/
import Derived.Test.YtajbpcaghmcplaaIdA
import Derived.Test.YtajbpcaghmcplaaId5
import Derived.Test.YtajbpcaghmcplaaId6
namespace Go.Proofs.Ytajbpcaghmcplaa.Id
open Go.ChangeShapes Go.WideShapes Go.ChangeAt Go.RowKit
open Go.Proofs.Ytajbpcaghmcplaa.Le Go.Proofs.Ytajbpcaghmcplaa.Sr Go.Proofs.Ytajbpcaghmcplaa.Dh
set_option linter.unusedVariables false

set_option maxRecDepth 100000 in
theorem get_no (s : ByteArray) (i : Int) (hbg : s.size ≤ 9223372036854775807) (h : i < 0 ∨ (s.size : Int) < 22 + 16 * i) (W : World) :
    Calls Try.prog 15 #[.string s, .int .i64 i] W fun e w' => e = .returned (.tuple #[.agg #[.int .i64 0, .int .i64 0, .int .i64 0, .int .i64 0, .int .i64 0, .int .i64 0], .bool false]) ∧ W.grownBy w' none := by
  by_cases h0 : i < 0
  · have d0 : decide (i < 0) = true := decide_eq_true h0
    clear h
    go_enter Try.func15, Try.ntmps15
    go_wp2
    refine bodyPost_ret (v := .tuple #[.agg #[.int .i64 0, .int .i64 0, .int .i64 0, .int .i64 0, .int .i64 0, .int .i64 0], .bool false]) (by simp only [results, Try.results15]; go_simp) rfl ⟨rfl, ?_⟩
    first | exact World.grownBy_alloc _ _ _ | exact (gb_own (gb_own (gb_own (gb_own (gb_own (gb_own (World.grownBy_alloc _ _ _) (Nat.le_refl _) (gb_set _ _ _ _)) (Nat.le_refl _) (gb_set _ _ _ _)) (Nat.le_refl _) (gb_set _ _ _ _)) (Nat.le_refl _) (gb_set _ _ _ _)) (Nat.le_refl _) (gb_set _ _ _ _)) (Nat.le_refl _) (gb_set _ _ _ _))
  · have d0 : decide (i < 0) = false := decide_eq_false h0
    have hM : ∃ M : Int, (s.size : Int) - 6 = M := ⟨_, rfl⟩
    obtain ⟨M, hM⟩ := hM
    have wM : IntKind.i64.wrap M = M := IntWalk.i64_in _ (by omega)
    obtain ⟨D, hD⟩ : ∃ D : Int, M.tdiv 16 = D := ⟨_, rfl⟩
    have hDi : D ≤ i ∧ -1 ≤ D ∧ D ≤ 9223372036854775807 := by
      by_cases hm : 0 ≤ M
      · rw [Int.tdiv_eq_ediv_of_nonneg hm] at hD; omega
      · have : M.tdiv 16 = 0 := by
          have h1 : -M < 16 := by omega
          have h2 : M = -(-M) := by omega
          rw [h2, Int.neg_tdiv, Int.tdiv_eq_ediv_of_nonneg (by omega)]
          omega
        omega
    have wD : IntKind.i64.wrap D = D := IntWalk.i64_in _ (by omega)
    have d1 : decide (D ≤ i) = true := decide_eq_true hDi.1
    have d2 : D ≤ i := hDi.1
    clear h hDi
    go_enter Try.func15, Try.ntmps15
    go_wp2
    refine bodyPost_ret (v := .tuple #[.agg #[.int .i64 0, .int .i64 0, .int .i64 0, .int .i64 0, .int .i64 0, .int .i64 0], .bool false]) (by simp only [results, Try.results15]; go_simp) rfl ⟨rfl, ?_⟩
    first | exact World.grownBy_alloc _ _ _ | exact (gb_own (gb_own (gb_own (gb_own (gb_own (gb_own (World.grownBy_alloc _ _ _) (Nat.le_refl _) (gb_set _ _ _ _)) (Nat.le_refl _) (gb_set _ _ _ _)) (Nat.le_refl _) (gb_set _ _ _ _)) (Nat.le_refl _) (gb_set _ _ _ _)) (Nat.le_refl _) (gb_set _ _ _ _)) (Nat.le_refl _) (gb_set _ _ _ _))

set_option maxRecDepth 100000 in
set_option maxHeartbeats 2000000 in
theorem get_yes (s : ByteArray) (i : Nat) (hbg : s.size ≤ 4611686018427387904) (h : 22 + 16 * i ≤ s.size) (W : World) :
    Calls Try.prog 15 #[.string s, .int .i64 (i : Nat)] W fun e w' => e = .returned (.tuple #[.agg (enV s (qE 0 i)), .bool true]) ∧ W.grownBy w' none := by
  have d0 : ¬ (i : Int) < 0 := by omega
  obtain ⟨M, hM⟩ : ∃ M : Int, (s.size : Int) - 6 = M := ⟨_, rfl⟩
  have wM : IntKind.i64.wrap M = M := IntWalk.i64_in _ (by omega)
  have hm0 : 0 ≤ M := by omega
  have hD : M.tdiv 16 = M / 16 := Int.tdiv_eq_ediv_of_nonneg hm0
  obtain ⟨D, hD'⟩ : ∃ D : Int, M / 16 = D := ⟨_, rfl⟩
  rw [hD'] at hD
  have d2 : ¬ D ≤ (i : Int) := by omega
  have d1 : decide (D ≤ (i : Int)) = false := decide_eq_false d2
  have wD : IntKind.i64.wrap D = D := IntWalk.i64_in _ (by omega)
  have KE1 := fun u => end_calls i (by omega) u
  have KE2 := fun u => end_calls (i + 1) (by omega) u
  have hw1 : IntKind.i64.wrap ((i : Int) + 1) = (i : Int) + 1 := IntWalk.i64_in _ (by omega)
  obtain ⟨q, hq⟩ : ∃ q, 6 + 16 * i = q := ⟨_, rfl⟩
  have HC : ∀ w, (Instr.slice 9 (.string s) (some (.int .i64 (q : Int))) (some (.int .i64 ((q : Int) + 16))) none).run Try.prog w = .ok (.string (s.extract q (q + 16))) w := fun w => cut_at s q 16 (by omega) w
  have KV := fun u => entry_calls (s.extract q (q + 16)) (by rw [ByteArray.size_extract]; omega) u
  rw [eW_ext s 0 q (by omega)] at KV
  rw [show qE 0 i = q from by unfold qE; omega]
  rw [show 6 + 16 * (i + 1) = q + 16 from by omega, Int.natCast_add, Int.natCast_one, Int.natCast_add] at KE2
  rw [hq] at KE1
  obtain ⟨y, hy⟩ : ∃ y, s.extract q (q + 16) = y := ⟨_, rfl⟩
  rw [hy] at HC KV
  obtain ⟨v0, v1, v2, v3, v4, v5, hv⟩ : ∃ v0 v1 v2 v3 v4 v5 : Nat, enV s q = #[.int .i64 (v0 : Nat), .int .i64 (v1 : Nat), .int .i64 (v2 : Nat), .int .i64 (v3 : Nat), .int .i64 (v4 : Nat), .int .i64 (v5 : Nat)] := ⟨_, _, _, _, _, _, rfl⟩
  rw [hv] at KV ⊢
  have KE1 := Lib.hid KE1
  have KE2 := Lib.hid KE2
  have KV := Lib.hid KV
  clear hv hy hq h hm0 hD'
  go_enter Try.func15, Try.ntmps15
  go_wp2_with fail
  refine (KE1.out _).mono ?_
  rintro e w' ⟨rfl, rfl⟩
  go_wp2_with fail
  refine (KE2.out _).mono ?_
  rintro e w' ⟨rfl, rfl⟩
  go_wp2_with fail
  refine (KV.out _).mono ?_
  rintro e w1 ⟨rfl, g1⟩
  have R1 := old1 g1 (by simp)
  have G1 := Lib.hid (gb_trans (World.grownBy_alloc W (.cells #[.int .i64 0, .int .i64 0, .int .i64 0, .int .i64 0, .int .i64 0, .int .i64 0] 33) none) g1)
  have x0 := blk_cell R1 0
  have y0 := blk_free R1 0
  have x1 := blk_cell R1 1
  have y1 := blk_free R1 1
  have x2 := blk_cell R1 2
  have y2 := blk_free R1 2
  have x3 := blk_cell R1 3
  have y3 := blk_free R1 3
  have x4 := blk_cell R1 4
  have y4 := blk_free R1 4
  have x5 := blk_cell R1 5
  have y5 := blk_free R1 5
  simp only [List.getElem?_toArray, List.getElem?_cons_succ, List.getElem?_cons_zero] at x0 x1 x2 x3 x4 x5
  have hl := blk_lt R1
  clear R1 g1
  go_wp2
  refine bodyPost_ret (v := .tuple #[.agg #[.int .i64 (v0 : Nat), .int .i64 (v1 : Nat), .int .i64 (v2 : Nat), .int .i64 (v3 : Nat), .int .i64 (v4 : Nat), .int .i64 (v5 : Nat)], .bool true]) (by simp only [results, Try.results15]; go_simp) rfl ⟨rfl, ?_⟩
  exact gb_own (gb_own (gb_own (gb_own (gb_own (gb_own G1.out (Nat.le_refl _) (gb_set _ _ _ _)) (Nat.le_refl _) (gb_set _ _ _ _)) (Nat.le_refl _) (gb_set _ _ _ _)) (Nat.le_refl _) (gb_set _ _ _ _)) (Nat.le_refl _) (gb_set _ _ _ _)) (Nat.le_refl _) (gb_set _ _ _ _)

theorem head_at (s : ByteArray) (n : Nat) (h : n ≤ s.size) (w : World) :
    (Instr.slice 9 (.string s) none (some (.int .i64 (n : Int))) none).run Try.prog w = .ok (.string (s.extract 0 n)) w := by
  have ht' : Try.prog.underlying 9 = some .string := by kernel_rfl
  simp [Instr.slice, run_underlying ht', Instr.sliceBounds, run_sliceBound, Result.andThen, h]

def isB (s : ByteArray) : Bool := decide (10 ≤ s.size) && (!(wrB s) && decide (bn s 9 = 0))
theorem wr_ext (s : ByteArray) (h : 6 ≤ s.size) : wrB (s.extract 0 6) = wrB s := by
  unfold wrB
  rw [w2_ext s 0 6 0 h (by omega), w2_ext s 0 6 2 h (by omega), w2_ext s 0 6 4 h (by omega)]
set_option maxRecDepth 100000 in
theorem is_calls (s : ByteArray) (hbg : s.size ≤ 9223372036854775807) (W : World) :
    Calls Try.prog 14 #[.string s] W fun e w' => e = .returned (.bool (isB s)) ∧ W = w' := by
  unfold isB
  by_cases h10 : 10 ≤ s.size
  · rw [decide_eq_true h10, Bool.true_and]
    have hz : (s.extract 0 6).size = 6 := by rw [ByteArray.size_extract]; omega
    have KW := fun u => wrong_calls (s.extract 0 6) hz u
    rw [wr_ext s (by omega)] at KW
    have HC := fun w => head_at s 6 (by omega) w
    have l9 : 9 < s.size := by omega
    have i9 : (9 : Int) < (s.size : Int) := by omega
    have j9 : (s[9]'l9).toNat = bn s 9 := bn_at s 9 l9
    have n10 : ¬ (s.size : Int) < 10 := by omega
    obtain ⟨z, hz2⟩ : ∃ z, s.extract 0 6 = z := ⟨_, rfl⟩
    rw [hz2] at KW HC
    obtain ⟨P, hP⟩ : ∃ P, wrP z = P := ⟨_, rfl⟩
    obtain ⟨B, hB⟩ : ∃ B, wrB s = B := ⟨_, rfl⟩
    obtain ⟨n, hn⟩ : ∃ n, bn s 9 = n := ⟨_, rfl⟩
    rw [hP, hB] at KW
    rw [hB, hn]
    rw [hn] at j9
    have KW := Lib.hid KW
    clear hP hB hn hz hz2 h10
    have HC6 : ∀ w, (Instr.slice 9 (.string s) none (some (.int .i64 6)) none).run Try.prog w = .ok (.string z) w := HC
    clear HC
    cases B with
    | true =>
      go_enter Try.func14, Try.ntmps14
      go_wp2_with fail
      refine (KW.out _).mono ?_
      rintro e w' ⟨rfl, rfl⟩
      go_wp2
      go_ret
      exact ⟨rfl, rfl⟩
    | false =>
      by_cases h0 : n = 0
      · have f : (((n : Nat) : Int) == 0) = true := by rw [beq_iff_eq]; omega
        rw [decide_eq_true h0]
        subst h0
        go_enter Try.func14, Try.ntmps14
        go_wp2_with fail
        refine (KW.out _).mono ?_
        rintro e w' ⟨rfl, rfl⟩
        go_wp2
        go_ret
        exact ⟨rfl, rfl⟩
      · have f : (((n : Nat) : Int) == 0) = false := by rw [beq_eq_false_iff_ne]; omega
        have f2 : ¬ ((n : Nat) : Int) = 0 := by omega
        rw [decide_eq_false h0]
        go_enter Try.func14, Try.ntmps14
        go_wp2_with fail
        refine (KW.out _).mono ?_
        rintro e w' ⟨rfl, rfl⟩
        go_wp2
        go_ret
        exact ⟨rfl, rfl⟩
  · rw [decide_eq_false h10, Bool.false_and]
    have n10 : (s.size : Int) < 10 := by omega
    go_enter Try.func14, Try.ntmps14
    go_wp2
    go_ret
    exact ⟨rfl, rfl⟩

/-- The example's entries, and their bytes. -/
def exE (i j : Nat) : Int := if j = 5 then 38 else if 2 ≤ j then 0 else if i = 0 then 16 else 32
def exT : ByteArray := txF 38 (dirF false 2 exE 2)
theorem ex_ft : ∀ i, i < 2 → ftE (exE i) = true := by decide +kernel
theorem ex_size : exT.size = 38 := txF_size _ _
theorem ex_fk : FK exT 0 2 2 := ⟨Nat.le_refl _, fun j hj => by
  obtain rfl | rfl : j = 0 ∨ j = 1 := by omega
  · refine ⟨by rw [ex_size]; decide, ?_, ?_⟩
    · show 38 ≤ eP exT 6; decide +kernel
    · rw [ex_size]; decide +kernel
  · refine ⟨by rw [ex_size]; decide, ?_, ?_⟩
    · show 38 ≤ eP exT 22; decide +kernel
    · rw [ex_size]; decide +kernel, fun h => absurd h (Nat.lt_irrefl _)⟩
theorem ex_b : bst exT 0 false 2 = 1 := by decide +kernel
theorem ex_w : cW exT 0 false 2 = 32 := by decide +kernel
theorem ex_wr : wrB exT = false := by decide +kernel
theorem ex_c : w2 (exT.extract 0 6) 4 = 2 := by rw [w2_ext exT 0 6 4 (by rw [ex_size]; decide) (by decide)]; decide +kernel
theorem ex_t : w2 (exT.extract 0 6) 2 = 1 := by rw [w2_ext exT 0 6 2 (by rw [ex_size]; decide) (by decide)]; decide +kernel

set_option maxRecDepth 100000 in
set_option maxHeartbeats 2000000 in
theorem awake_calls (W : World) : Calls Try.prog 6 #[] W fun e w' => e = .returned (.bool true) ∧ W.grownBy w' none := by
  have hs := ex_size
  have KR := Lib.hid (fun (b l : Nat) (u : World) (hS : Sl b l exT 0 0 exT.size (LW 9 0) u) => read_loop b l exT 0 0 (LW 9 0) u hS rfl (by decide) (by rw [ex_size]; decide) (by rw [ex_size]; decide) (exT.extract 0 6) rfl (by rw [wr_ext _ (by rw [ex_size]; decide)]; exact ex_wr) 2 ex_c false (by rw [ex_t]; rfl) 2 ex_fk 3 38 _ _ (.inl ⟨rfl, rfl, rfl, rfl, rfl⟩))
  obtain ⟨h1, a1, b1, s1, p1, hd⟩ : ∃ h1 a1 b1 s1 p1 : Nat, dirV exT 0 false 2 = #[.bool false, .int .i64 2, .int .i64 1, .int .i64 32, .int .i64 (h1 : Nat), .int .i64 (a1 : Nat), .int .i64 (b1 : Nat), .int .i64 (s1 : Nat), .int .i64 (p1 : Nat)] := ⟨_, _, _, _, _, by unfold dirV dB; rw [ex_b, ex_w]; rfl⟩
  rw [hd] at KR
  have KB := fun (lb cap : Nat) (u : World) (he : EnsAt lb 0 2 exE u) => bytes_calls false lb 0 2 cap 2 exE u (by decide) (by decide) he (Nat.le_refl _) ex_ft (.inl rfl)
  simp only [if_true] at KB
  rw [show txF (6 + 16 * 2) (dirF false 2 exE 2) = exT from rfl] at KB
  obtain ⟨s, hse⟩ : ∃ s, exT = s := ⟨_, rfl⟩
  rw [hse] at KR KB hs
  have KB := Lib.hid KB
  have HSZ := Lib.hid hs
  clear hd hse hs
  go_enter Try.func6, Try.ntmps6
  go_wp2_with fail
  refine (KB.out _ _ _ ?_).mono ?_
  · intro i hi j hj
    obtain rfl | rfl : i = 0 ∨ i = 1 := by omega
    all_goals
      obtain rfl | rfl | rfl | rfl | rfl | rfl : j = 0 ∨ j = 1 ∨ j = 2 ∨ j = 3 ∨ j = 4 ∨ j = 5 := by omega
      all_goals exact blk_cell blk_at _
  rintro e w1 ⟨rfl, g1⟩
  have G1 := Lib.hid (gb_trans (World.grownBy_alloc _ _ none) g1)
  clear g1
  go_wp2_with fail
  refine (wnew_calls 9 (by decide) _).mono ?_
  rintro e w2 ⟨l, rfl, L2, g2, hl⟩
  have H2 := Lib.hid L2
  have G2 := Lib.hid (gb_trans G1.out g2)
  have l2 := L2.lt
  have hl2 := Lib.hid hl
  clear L2 g2 hl
  go_wp2_with fail
  refine (snew_calls l s _ (by have := HSZ.out; omega)).mono ?_
  rintro e w3 ⟨c, rfl, S3, g3, hc⟩
  have H3 := Lib.hid (H2.out.grown g3 (by simp))
  have G3 := Lib.hid (gb_trans G2.out g3)
  have S3' := Lib.hid (S3 l2)
  have hW := G2.out.size
  have hW1 := G1.out.size
  have hl3 := hl2.out
  have HS3 := Lib.hid (show Sl c l s 0 0 s.size (LW 9 0) w3 from ⟨S3'.out, H3.out, LW_ok (by decide) (by decide) (by decide)⟩)
  clear S3 g3 H2 S3' H3 G2 G1
  go_wp2_with fail
  refine (KR.out c l _ HS3.out).mono ?_
  rintro e w4 (⟨-, rfl, S4, t4⟩ | ⟨h9, _⟩)
  rotate_left
  · exact absurd h9 (by decide)
  have G4 := Lib.hid (Tn.own G3.out t4 (by simp; omega))
  clear S4 t4 G3 HS3
  go_wp2
  go_ret
  exact ⟨rfl, gb_trans (gb_trans G4.out (World.grownBy_alloc _ _ _)) (World.grownBy_alloc _ _ _)⟩

end Go.Proofs.Ytajbpcaghmcplaa.Id
