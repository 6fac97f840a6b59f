/- Texts of one kind, one behind the other: Tok3, Tok4, Tok5, Tok6. -/
import Derived.Deep.LoopGhost
import Derived.Deep.RegionHeld3
import Derived.Test.YtcfdippcobkbaaaGreatG07
import Derived.Test.YtcfdippcobkbaaaGreatG27
/- Layer 11: the document's Blank and Over, walked. -/
namespace Go.Proofs.YtcfdippcobkbaaaGreat.Tk
open Go.ChangeShapes Go.WideShapes Go.ChangeAt Go.RowKit
open Go.Proofs.YtcfdippcobkbaaaGreat.Le
set_option linter.unusedVariables false

theorem rblank_calls (b : Nat) (h : b < 256) (W : World) : Calls Tryz.prog 29 #[.int .u8 b] W fun e w' => e = .returned (.bool (blankB b)) ∧ W = w' := by
  have hc : (((b : Int) == 32) = true ∧ blankB b = true) ∨ (((b : Int) == 32) = false ∧ decide ((9 : Int) ≤ b) = false ∧ blankB b = false) ∨ (((b : Int) == 32) = false ∧ decide ((9 : Int) ≤ b) = true ∧ decide ((b : Int) ≤ 13) = true ∧ blankB b = true) ∨
      (((b : Int) == 32) = false ∧ decide ((9 : Int) ≤ b) = true ∧ decide ((b : Int) ≤ 13) = false ∧ blankB b = false) := by
    rw [blankB_iff, blankB_not]
    by_cases h1 : b = 32
    · exact .inl ⟨by rw [beq_iff_eq]; omega, .inl h1⟩
    · have e1 : ((b : Int) == 32) = false := by rw [beq_eq_false_iff_ne]; omega
      by_cases h2 : 9 ≤ b
      · by_cases h3 : b ≤ 13
        · exact .inr (.inr (.inl ⟨e1, decide_eq_true (by omega), decide_eq_true (by omega), .inr ⟨h2, h3⟩⟩))
        · exact .inr (.inr (.inr ⟨e1, decide_eq_true (by omega), decide_eq_false (by omega), by omega⟩))
      · exact .inr (.inl ⟨e1, decide_eq_false (by omega), by omega⟩)
  rcases hc with ⟨d1, e⟩ | ⟨d1, d2, e⟩ | ⟨d1, d2, d3, e⟩ | ⟨d1, d2, d3, e⟩
  all_goals
    rw [e]
    clear e
    go_enter Tryz.func29, Tryz.ntmps29
    go_wp2
    go_ret
    exact ⟨rfl, rfl⟩

set_option maxRecDepth 100000 in
theorem rover_calls (s : ByteArray) (k : Nat) (W : World) (hs : s.size ≤ 9223372036854775806) (hk : k ≤ s.size) :
    Calls Tryz.prog 53 #[.string s, .int .i64 k] W fun e w' => e = .returned (.int .i64 (overV s k)) ∧ W = w' := by
  obtain ⟨r, hr⟩ : ∃ r, overV s k = r := ⟨_, rfl⟩
  rw [hr]
  have HR := Lib.hid hr
  clear hr
  go_enter Tryz.func53, Tryz.ntmps53
  go_wp2_with fail
  go_loopg [1] (s.size - k) (fun q iv wr => ∃ j : Nat, j ≤ s.size ∧ q = s.size - j ∧ iv = .int .i64 j ∧ overV s j = r ∧ wr = W)
  case atStart => exact ⟨k, hk, rfl, rfl, HR.out, rfl⟩
  case round =>
    obtain ⟨j, hj, rfl, rfl, J, rfl⟩ := hrel
    have HJ := Lib.hid J
    clear J
    by_cases hjs : j < s.size
    · obtain ⟨c, hc⟩ : ∃ c, bt s j = c := ⟨_, rfl⟩
      have hcell := bt_cell s j hjs hc
      have cl : c < 256 := by rw [← hc]; exact bt_lt s j
      have HC := Lib.hid hc
      clear hc
      by_cases h35 : c = 35
      · have d1 : ((c : Int) == 35) = true := by rw [beq_iff_eq]; omega
        have H35 := Lib.hid h35
        clear h35
        go_wp2_with fail
        go_loopg [1] (s.size - j) (fun q iv wr' => ∃ i : Nat, i ≤ s.size ∧ j ≤ i ∧ q = s.size - i ∧ iv = .int .i64 i ∧ remEnd s i = remEnd s j ∧ wr' = wr)
        case atStart => exact ⟨j, hj, Nat.le_refl _, rfl, rfl, rfl, rfl⟩
        case round =>
          obtain ⟨i, hi, hji, rfl, rfl, I, rfl⟩ := hrel
          have HI := Lib.hid I
          clear I hcell d1
          by_cases his : i < s.size
          · obtain ⟨x, hx⟩ : ∃ x, bt s i = x := ⟨_, rfl⟩
            have hxc := bt_cell s i his hx
            have xl : x < 256 := by rw [← hx]; exact bt_lt s i
            have HX := Lib.hid hx
            clear hx
            have hn : remEnd s i = i → remNext s j = i + 1 := fun h => by
              unfold remNext
              rw [← HI.out, h, if_pos his]
            have HN := Lib.hid hn
            clear hn
            by_cases hx1 : x = 10
            · have d2 : ((x : Int) == 10) = true := by rw [beq_iff_eq]; omega
              have d2' : ((x : Int) != 10) = false := by rw [bne_eq_false_iff_eq]; omega
              have HX1 := Lib.hid hx1
              clear hx1
              go_wp2
              go_roundg (s.size - (i + 1))
              case measure => omega
              case rel => exact ⟨i + 1, by omega, rfl, by go_num, by
                rw [← HN.out (remEnd_stop (fun h => h.2.1 (HX.out.trans HX1.out))), ← overV_rem hjs (HC.out.trans H35.out)]
                exact HJ.out, rfl⟩
            · have d2 : ((x : Int) == 10) = false := by rw [beq_eq_false_iff_ne]; omega
              have d2' : ((x : Int) != 10) = true := by rw [bne_iff_ne]; omega
              by_cases hx2 : x = 13
              · have d3 : ((x : Int) == 13) = true := by rw [beq_iff_eq]; omega
                have d3' : ((x : Int) != 13) = false := by rw [bne_eq_false_iff_eq]; omega
                have HX2 := Lib.hid hx2
                clear hx2 hx1
                go_wp2
                go_roundg (s.size - (i + 1))
                case measure => omega
                case rel => exact ⟨i + 1, by omega, rfl, by go_num, by
                  rw [← HN.out (remEnd_stop (fun h => h.2.2 (HX.out.trans HX2.out))), ← overV_rem hjs (HC.out.trans H35.out)]
                  exact HJ.out, rfl⟩
              · have d3 : ((x : Int) == 13) = false := by rw [beq_eq_false_iff_ne]; omega
                have d3' : ((x : Int) != 13) = true := by rw [bne_iff_ne]; omega
                have HX1 := Lib.hid hx1
                have HX2 := Lib.hid hx2
                clear hx1 hx2
                go_wp2
                go_roundg (s.size - (i + 1))
                case measure => omega
                case rel => exact ⟨i + 1, by omega, by omega, rfl, by go_num, by
                  rw [← remEnd_on his (by rw [HX.out]; exact HX1.out) (by rw [HX.out]; exact HX2.out)]
                  exact HI.out, rfl⟩
          · obtain rfl : i = s.size := by omega
            have hn : remNext s j = s.size := by
              unfold remNext
              rw [← HI.out, remEnd_stop (by omega), if_neg (by omega)]
            have HN := Lib.hid hn
            clear hn
            go_wp2
            go_roundg (s.size - s.size)
            case measure => omega
            case rel => exact ⟨s.size, by omega, rfl, rfl, by
              rw [← HN.out, ← overV_rem hjs (HC.out.trans H35.out)]
              exact HJ.out, rfl⟩
      · have d1 : ((c : Int) == 35) = false := by rw [beq_eq_false_iff_ne]; omega
        have H35 := Lib.hid h35
        clear h35
        have KB := rblank_calls c cl
        cases eB : blankB c
        · rw [eB] at KB
          have KBh := Lib.hid KB
          have hre : r = j := by rw [← HJ.out, overV_stop hjs (by rw [HC.out]; exact H35.out) (by rw [HC.out]; exact eB)]
          subst hre
          clear eB KB HJ HR
          go_wp2_with fail
          refine (KBh.out _).mono ?_
          rintro e w' ⟨rfl, rfl⟩
          go_wp2
          go_ret
          exact ⟨rfl, rfl⟩
        · rw [eB] at KB
          have KBh := Lib.hid KB
          have HE := Lib.hid eB
          clear eB KB
          go_wp2_with fail
          refine (KBh.out _).mono ?_
          rintro e w' ⟨rfl, rfl⟩
          go_wp2
          go_roundg (s.size - (j + 1))
          case measure => omega
          case rel => exact ⟨j + 1, by omega, rfl, by go_num, by
            rw [← overV_blank hjs (by rw [HC.out]; exact HE.out)]
            exact HJ.out, rfl⟩
    · have hre : r = j := by rw [← HJ.out, overV_end (by omega)]
      subst hre
      clear HJ HR
      go_wp2
      go_ret
      exact ⟨rfl, rfl⟩

end Go.Proofs.YtcfdippcobkbaaaGreat.Tk

/- Layer 11: the document's Number and Digit, walked. -/
namespace Go.Proofs.YtcfdippcobkbaaaGreat.Tk
open Go.ChangeShapes Go.WideShapes Go.ChangeAt Go.RowKit
open Go.Proofs.YtcfdippcobkbaaaGreat.Le
set_option linter.unusedVariables false

/-- What the document says, as a value. -/
def gotA (g : Got) : Value := .agg #[.int .i64 g.v, .int .i64 g.from_, .int .i64 g.next, .int .i64 g.kind, .int .i64 g.place]
def zero5 : Array Value := #[.int .i64 0, .int .i64 0, .int .i64 0, .int .i64 0, .int .i64 0]

theorem gotV_none {s : ByteArray} {k f : Nat} (hf : overV s k = f) (h : s.size ≤ f) : gotV s k = ⟨0, 0, 0, 1, s.size⟩ := by
  unfold gotV
  rw [hf, if_pos h]
theorem gotV_bad {s : ByteArray} {k f v : Nat} (hf : overV s k = f) (h : ¬ s.size ≤ f) (h1 : numV s f 0 = (v, f)) : gotV s k = ⟨0, 0, 0, 2, f⟩ := by
  unfold gotV
  rw [hf, if_neg h, h1, if_pos rfl]
theorem gotV_yes {s : ByteArray} {k f v j : Nat} (hf : overV s k = f) (h : ¬ s.size ≤ f) (h1 : numV s f 0 = (v, j)) (h2 : j ≠ f) : gotV s k = ⟨v, f, j, 0, 0⟩ := by
  unfold gotV
  rw [hf, if_neg h, h1, if_neg h2]

set_option maxRecDepth 100000 in
set_option maxHeartbeats 1000000 in
theorem rnumber_calls (s : ByteArray) (k : Nat) (W : World) (hs : s.size ≤ 9223372036854775806) (hk : k ≤ s.size) :
    Calls Tryz.prog 28 #[.string s, .int .i64 k] W fun e w' => e = .returned (gotA (gotV s k)) ∧ W.grownBy w' none := by
  have KO := Lib.hid (fun u => rover_calls s k u hs hk)
  obtain ⟨f, hf⟩ : ∃ f, overV s k = f := ⟨_, rfl⟩
  have hfs := overV_le s _ k rfl hk
  rw [hf] at hfs
  simp only [hf] at KO
  have HF := Lib.hid hf
  clear hf
  obtain ⟨R, hr⟩ : ∃ R, gotV s k = R := ⟨_, rfl⟩
  rw [hr]
  have HRR := Lib.hid hr
  clear hr
  go_enter Tryz.func28, Tryz.ntmps28
  go_wp2_with fail
  refine (KO.out _).mono ?_
  rintro e w' ⟨rfl, rfl⟩
  have hR : (W.alloc (.cells #[.int .i64 0, .int .i64 0, .int .i64 0, .int .i64 0, .int .i64 0] 55)).heap[W.heap.size]? = some (.cells #[.int .i64 0, .int .i64 0, .int .i64 0, .int .i64 0, .int .i64 0] 55 (0, 0)) := blk_at
  have hG := World.grownBy_alloc W (.cells #[.int .i64 0, .int .i64 0, .int .i64 0, .int .i64 0, .int .i64 0] 55) none
  generalize W.alloc (.cells #[.int .i64 0, .int .i64 0, .int .i64 0, .int .i64 0, .int .i64 0] 55) = w1 at hR hG ⊢
  have q0 : w1.cell? ⟨W.heap.size, 0, none⟩ = some (.int .i64 0) := blk_cell hR 0
  have q1 : w1.cell? ⟨W.heap.size, 1, none⟩ = some (.int .i64 0) := blk_cell hR 1
  have q2 : w1.cell? ⟨W.heap.size, 2, none⟩ = some (.int .i64 0) := blk_cell hR 2
  have q3 : w1.cell? ⟨W.heap.size, 3, none⟩ = some (.int .i64 0) := blk_cell hR 3
  have q4 : w1.cell? ⟨W.heap.size, 4, none⟩ = some (.int .i64 0) := blk_cell hR 4
  have f0 := blk_free hR 0
  have f1 := blk_free hR 1
  have f2 := blk_free hR 2
  have f3 := blk_free hR 3
  have f4 := blk_free hR 4
  have HG := Lib.hid hG
  clear hR hG
  by_cases hz : s.size ≤ f
  · have hg := HRR.out.symm.trans (gotV_none HF.out hz)
    subst hg
    clear HRR
    have d1 : decide ((s.size : Int) ≤ (f : Int)) = true := decide_eq_true (by omega)
    go_wp2
    refine bodyPost_ret (v := gotA ⟨0, 0, 0, 1, s.size⟩) (by simp only [results, Tryz.results28, gotA]; go_simp) rfl ⟨rfl, ?_⟩
    exact gb_own (gb_own (gb_own (gb_own (gb_own HG.out (Nat.le_refl _) (gb_set _ _ _ _)) (Nat.le_refl _) (gb_set _ _ _ _)) (Nat.le_refl _) (gb_set _ _ _ _)) (Nat.le_refl _) (gb_set _ _ _ _)) (Nat.le_refl _) (gb_set _ _ _ _)
  · have d1 : decide ((s.size : Int) ≤ (f : Int)) = false := decide_eq_false (by omega)
    go_wp2_with fail
    go_loopg [6, 7] (s.size - f) (fun q iv vv wr => ∃ j v : Nat, f ≤ j ∧ j ≤ s.size ∧ v ≤ 1000000000 ∧ q = s.size - j ∧ iv = .int .i64 j ∧ vv = .int .i64 v ∧ numV s f 0 = numV s j v ∧ wr = w1)
    case atStart => exact ⟨f, 0, Nat.le_refl _, hfs, by omega, rfl, rfl, rfl, rfl, rfl⟩
    case round =>
      obtain ⟨j, v, hfj, hj, hv, rfl, rfl, rfl, J, rfl⟩ := hrel
      have HJ := Lib.hid J
      clear J d1
      by_cases hd : j < s.size ∧ 48 ≤ bt s j ∧ bt s j ≤ 57
      · have hon := numV_on (v := v) hd.1 hd.2.1 hd.2.2
        obtain ⟨hjs, hb1, hb2⟩ := hd
        obtain ⟨c, hc⟩ : ∃ c, bt s j = c := ⟨_, rfl⟩
        have hcell := bt_cell s j hjs hc
        rw [hc] at hb1 hb2 hon
        clear hc
        have d2 : decide ((48 : Int) ≤ c) = true := decide_eq_true (by omega)
        have d3 : decide ((c : Int) ≤ 57) = true := decide_eq_true (by omega)
        obtain ⟨n, hn⟩ : ∃ n : Nat, 10 * v + c = n + 48 := ⟨10 * v + c - 48, by omega⟩
        rw [show 10 * v + c - 48 = n from by omega] at hon
        have hni : (10 * (v : Int) + (c : Int) - 48) = n := by omega
        have HON := Lib.hid (HJ.out.trans hon)
        clear hon
        by_cases hcap : 999999999 < n
        · have d4 : decide ((999999999 : Int) < n) = true := decide_eq_true (by omega)
          have ecap : capN n = 1000000000 := if_pos hcap
          have HON2 := Lib.hid (by have := HON.out; rw [ecap] at this; exact this)
          clear ecap
          go_wp2
          go_roundg (s.size - (j + 1))
          case measure => omega
          case rel => exact ⟨j + 1, 1000000000, by omega, by omega, by omega, rfl, by go_num, by go_num, HON2.out, rfl⟩
        · have d4 : decide ((999999999 : Int) < n) = false := decide_eq_false (by omega)
          have ecap : capN n = n := if_neg hcap
          have HON2 := Lib.hid (by have := HON.out; rw [ecap] at this; exact this)
          clear ecap
          go_wp2
          go_roundg (s.size - (j + 1))
          case measure => omega
          case rel => exact ⟨j + 1, n, by omega, by omega, by omega, rfl, by go_num, by go_num, HON2.out, rfl⟩
      · have hst := HJ.out.trans (numV_stop hd)
        have hex : (¬ j < s.size) ∨ (∃ (h : j < s.size) (c : Nat), ((s[j]'h).toNat : Int) = c ∧ c < 256 ∧ decide ((48 : Int) ≤ c) = false) ∨ (∃ (h : j < s.size) (c : Nat), ((s[j]'h).toNat : Int) = c ∧ c < 256 ∧ decide ((48 : Int) ≤ c) = true ∧ decide ((c : Int) ≤ 57) = false) := by
          by_cases h : j < s.size
          · by_cases h1 : 48 ≤ bt s j
            · exact .inr (.inr ⟨h, bt s j, bt_cell s j h rfl, bt_lt s j, decide_eq_true (by omega), decide_eq_false (by omega)⟩)
            · exact .inr (.inl ⟨h, bt s j, bt_cell s j h rfl, bt_lt s j, decide_eq_false (by omega)⟩)
          · exact .inl h
        have HST := Lib.hid hst
        clear hst hd HJ
        by_cases hjf : j = f
        · have hg : R = ⟨0, 0, 0, 2, f⟩ := HRR.out.symm.trans (gotV_bad (v := v) HF.out hz (by have := HST.out; rw [hjf] at this; exact this))
          subst hg
          clear HST HRR
          subst hjf
          rcases hex with hex | ⟨hjs, c, hcell, cl, d2⟩ | ⟨hjs, c, hcell, cl, d2, d3⟩
          · omega
          all_goals
            go_wp2
            refine bodyPost_ret (v := gotA ⟨0, 0, 0, 2, j⟩) (by simp only [results, Tryz.results28, gotA]; go_simp) rfl ⟨rfl, ?_⟩
            exact gb_own (gb_own (gb_own (gb_own (gb_own HG.out (Nat.le_refl _) (gb_set _ _ _ _)) (Nat.le_refl _) (gb_set _ _ _ _)) (Nat.le_refl _) (gb_set _ _ _ _)) (Nat.le_refl _) (gb_set _ _ _ _)) (Nat.le_refl _) (gb_set _ _ _ _)
        · have hg := HRR.out.symm.trans (gotV_yes HF.out hz HST.out hjf)
          subst hg
          clear HST HRR
          have d5 : ((j : Int) == (f : Int)) = false := by rw [beq_eq_false_iff_ne]; omega
          rcases hex with hex | ⟨hjs, c, hcell, cl, d2⟩ | ⟨hjs, c, hcell, cl, d2, d3⟩
          all_goals
            go_wp2
            refine bodyPost_ret (v := gotA ⟨v, f, j, 0, 0⟩) (by simp only [results, Tryz.results28, gotA]; go_simp) rfl ⟨rfl, ?_⟩
            exact gb_own (gb_own (gb_own (gb_own (gb_own HG.out (Nat.le_refl _) (gb_set _ _ _ _)) (Nat.le_refl _) (gb_set _ _ _ _)) (Nat.le_refl _) (gb_set _ _ _ _)) (Nat.le_refl _) (gb_set _ _ _ _)) (Nat.le_refl _) (gb_set _ _ _ _)

end Go.Proofs.YtcfdippcobkbaaaGreat.Tk

/- Layer 11: the document's Digit, walked. -/
namespace Go.Proofs.YtcfdippcobkbaaaGreat.Tk
open Go.ChangeShapes Go.WideShapes Go.ChangeAt Go.RowKit
open Go.Proofs.YtcfdippcobkbaaaGreat.Le
set_option linter.unusedVariables false

set_option maxRecDepth 100000 in
set_option maxHeartbeats 1000000 in
theorem rdigit_calls (s : ByteArray) (k : Nat) (W : World) (hs : s.size ≤ 9223372036854775806) (hk : k ≤ s.size) :
    Calls Tryz.prog 30 #[.string s, .int .i64 k] W fun e w' => e = .returned (gotA (digV s k)) ∧ W.grownBy w' none := by
  have KO := Lib.hid (fun u => rover_calls s k u hs hk)
  obtain ⟨f, hf⟩ : ∃ f, overV s k = f := ⟨_, rfl⟩
  have hfs := overV_le s _ k rfl hk
  rw [hf] at hfs
  simp only [hf] at KO
  have hR : digV s k = if s.size ≤ f then ⟨0, 0, 0, 1, s.size⟩ else if bt s f = 48 ∨ bt s f = 49 then ⟨bt s f - 48, f, f + 1, 0, 0⟩ else ⟨0, 0, 0, 2, f⟩ := by
    unfold digV
    rw [hf]
  clear hf
  obtain ⟨R, hr⟩ : ∃ R, digV s k = R := ⟨_, rfl⟩
  rw [hr] at hR ⊢
  clear hr
  have HRR := Lib.hid hR
  clear hR
  go_enter Tryz.func30, Tryz.ntmps30
  go_wp2_with fail
  refine (KO.out _).mono ?_
  rintro e w' ⟨rfl, rfl⟩
  have hR : (W.alloc (.cells #[.int .i64 0, .int .i64 0, .int .i64 0, .int .i64 0, .int .i64 0] 55)).heap[W.heap.size]? = some (.cells #[.int .i64 0, .int .i64 0, .int .i64 0, .int .i64 0, .int .i64 0] 55 (0, 0)) := blk_at
  have hG := World.grownBy_alloc W (.cells #[.int .i64 0, .int .i64 0, .int .i64 0, .int .i64 0, .int .i64 0] 55) none
  generalize W.alloc (.cells #[.int .i64 0, .int .i64 0, .int .i64 0, .int .i64 0, .int .i64 0] 55) = w1 at hR hG ⊢
  have q0 : w1.cell? ⟨W.heap.size, 0, none⟩ = some (.int .i64 0) := blk_cell hR 0
  have q1 : w1.cell? ⟨W.heap.size, 1, none⟩ = some (.int .i64 0) := blk_cell hR 1
  have q2 : w1.cell? ⟨W.heap.size, 2, none⟩ = some (.int .i64 0) := blk_cell hR 2
  have q3 : w1.cell? ⟨W.heap.size, 3, none⟩ = some (.int .i64 0) := blk_cell hR 3
  have q4 : w1.cell? ⟨W.heap.size, 4, none⟩ = some (.int .i64 0) := blk_cell hR 4
  have f0 := blk_free hR 0
  have f1 := blk_free hR 1
  have f2 := blk_free hR 2
  have f3 := blk_free hR 3
  have f4 := blk_free hR 4
  have HG := Lib.hid hG
  clear hR hG
  by_cases hz : s.size ≤ f
  · have hg := HRR.out
    rw [if_pos hz] at hg
    subst hg
    clear HRR
    have d1 : decide ((s.size : Int) ≤ (f : Int)) = true := decide_eq_true (by omega)
    go_wp2
    refine bodyPost_ret (v := gotA ⟨0, 0, 0, 1, s.size⟩) (by simp only [results, Tryz.results30, gotA]; go_simp) rfl ⟨rfl, ?_⟩
    exact gb_own (gb_own (gb_own (gb_own (gb_own HG.out (Nat.le_refl _) (gb_set _ _ _ _)) (Nat.le_refl _) (gb_set _ _ _ _)) (Nat.le_refl _) (gb_set _ _ _ _)) (Nat.le_refl _) (gb_set _ _ _ _)) (Nat.le_refl _) (gb_set _ _ _ _)
  · have d1 : decide ((s.size : Int) ≤ (f : Int)) = false := decide_eq_false (by omega)
    have hfl : f < s.size := by omega
    have hg := HRR.out
    rw [if_neg hz] at hg
    clear HRR
    obtain ⟨c, hc⟩ : ∃ c, bt s f = c := ⟨_, rfl⟩
    have hcell := bt_cell s f hfl hc
    have cl : c < 256 := by rw [← hc]; exact bt_lt s f
    rw [hc] at hg
    clear hc
    by_cases h1 : c = 48 ∨ c = 49
    · rw [if_pos h1] at hg
      subst hg
      rcases h1 with rfl | rfl
      all_goals
        go_wp2
        refine bodyPost_ret (v := gotA ⟨_, f, f + 1, 0, 0⟩) (by simp only [results, Tryz.results30, gotA]; go_simp) rfl ⟨rfl, ?_⟩
        exact gb_own (gb_own (gb_own (gb_own (gb_own HG.out (Nat.le_refl _) (gb_set _ _ _ _)) (Nat.le_refl _) (gb_set _ _ _ _)) (Nat.le_refl _) (gb_set _ _ _ _)) (Nat.le_refl _) (gb_set _ _ _ _)) (Nat.le_refl _) (gb_set _ _ _ _)
    · rw [if_neg h1] at hg
      subst hg
      have d2 : ((c : Int) == 48) = false := by rw [beq_eq_false_iff_ne]; omega
      have d3 : ((c : Int) == 49) = false := by rw [beq_eq_false_iff_ne]; omega
      have d2' : ((c : Int) != 48) = true := by rw [bne_iff_ne]; omega
      have d3' : ((c : Int) != 49) = true := by rw [bne_iff_ne]; omega
      clear h1
      go_wp2
      refine bodyPost_ret (v := gotA ⟨0, 0, 0, 2, f⟩) (by simp only [results, Tryz.results30, gotA]; go_simp) rfl ⟨rfl, ?_⟩
      exact gb_own (gb_own (gb_own (gb_own (gb_own HG.out (Nat.le_refl _) (gb_set _ _ _ _)) (Nat.le_refl _) (gb_set _ _ _ _)) (Nat.le_refl _) (gb_set _ _ _ _)) (Nat.le_refl _) (gb_set _ _ _ _)) (Nat.le_refl _) (gb_set _ _ _ _)

end Go.Proofs.YtcfdippcobkbaaaGreat.Tk

/- Layer 12: the document's bad and Row, walked. -/
namespace Go.Proofs.YtcfdippcobkbaaaGreat.Tk
open Go.ChangeShapes Go.WideShapes Go.ChangeAt Go.RowKit
open Go.Proofs.YtcfdippcobkbaaaGreat.Le
set_option linter.unusedVariables false

set_option maxRecDepth 100000 in
theorem rbad_calls (x y : Int) (W : World) : Calls Tryz.prog 27 #[.int .i64 x, .int .i64 y] W
    fun e w' => e = .returned (.agg #[.int .i64 0, .int .i64 0, .int .i64 0, .int .i64 0, .int .i64 0, .int .i64 x, .int .i64 y]) ∧ W.grownBy w' none := by
  go_enter Tryz.func27, Tryz.ntmps27
  go_wp2
  have hB := blk_at (w := W) (o := .cells #[.int .i64 0, .int .i64 0, .int .i64 0, .int .i64 0, .int .i64 0, .int .i64 x, .int .i64 y] 24)
  have hG := World.grownBy_alloc W (.cells #[.int .i64 0, .int .i64 0, .int .i64 0, .int .i64 0, .int .i64 0, .int .i64 x, .int .i64 y] 24) none
  generalize W.alloc (.cells #[.int .i64 0, .int .i64 0, .int .i64 0, .int .i64 0, .int .i64 0, .int .i64 x, .int .i64 y] 24) = w1 at hB hG ⊢
  have q0 : w1.cell? ⟨W.heap.size, 0, none⟩ = some (.int .i64 0) := blk_cell hB 0
  have q1 : w1.cell? ⟨W.heap.size, 1, none⟩ = some (.int .i64 0) := blk_cell hB 1
  have q2 : w1.cell? ⟨W.heap.size, 2, none⟩ = some (.int .i64 0) := blk_cell hB 2
  have q3 : w1.cell? ⟨W.heap.size, 3, none⟩ = some (.int .i64 0) := blk_cell hB 3
  have q4 : w1.cell? ⟨W.heap.size, 4, none⟩ = some (.int .i64 0) := blk_cell hB 4
  have q5 : w1.cell? ⟨W.heap.size, 5, none⟩ = some (.int .i64 x) := blk_cell hB 5
  have q6 : w1.cell? ⟨W.heap.size, 6, none⟩ = some (.int .i64 y) := blk_cell hB 6
  refine bodyPost_ret (v := .agg #[.int .i64 0, .int .i64 0, .int .i64 0, .int .i64 0, .int .i64 0, .int .i64 x, .int .i64 y]) (by simp only [results, Tryz.results27]; go_simp) rfl ⟨rfl, hG⟩

/-- How many bytes a row has, of the kinds 4 to 6. -/
def rowV (k w m : Nat) : Nat := if k = 4 then (w + 7) / 8 else (if k = 6 then 3 * w else w) * (if 255 < m then 2 else 1)

set_option maxRecDepth 100000 in
theorem rrow_calls (k w m : Nat) (h a b c : Int) (W : World) (hk : 4 ≤ k ∧ k ≤ 6) (hw : w ≤ 16384) (hm : m ≤ 65535) :
    Calls Tryz.prog 44 #[.agg #[.int .i64 k, .int .i64 w, .int .i64 h, .int .i64 m, .int .i64 a, .int .i64 b, .int .i64 c]] W
      fun e w' => e = .returned (.int .i64 (rowV k w m)) ∧ W.grownBy w' none := by
  obtain ⟨r, hr⟩ : ∃ r, rowV k w m = r := ⟨_, rfl⟩
  rw [hr]
  have hc : (k = 4 ∧ 0 < w % 8 ∧ r = w / 8 + 1) ∨ (k = 4 ∧ w % 8 = 0 ∧ r = w / 8) ∨ (k = 5 ∧ 255 < m ∧ r = 2 * w) ∨ (k = 5 ∧ m ≤ 255 ∧ r = w) ∨ (k = 6 ∧ 255 < m ∧ r = 2 * (3 * w)) ∨ (k = 6 ∧ m ≤ 255 ∧ r = 3 * w) := by
    rw [← hr]
    unfold rowV
    obtain rfl | rfl | rfl : k = 4 ∨ k = 5 ∨ k = 6 := by omega
    · rw [if_pos rfl]
      omega
    all_goals
      by_cases h : 255 < m
      · rw [if_neg (by decide), if_pos h]
        simp
        omega
      · rw [if_neg (by decide), if_neg h]
        simp
        omega
  clear hr hk
  rcases hc with ⟨rfl, h1, rfl⟩ | ⟨rfl, h1, rfl⟩ | ⟨rfl, h1, rfl⟩ | ⟨rfl, h1, rfl⟩ | ⟨rfl, h1, rfl⟩ | ⟨rfl, h1, rfl⟩
  all_goals
    go_enter Tryz.func44, Tryz.ntmps44
    go_wp2
    go_ret
    exact ⟨by go_num, by repeat' first | exact World.grownBy_alloc _ _ _ | exact gb_drew _ _⟩

end Go.Proofs.YtcfdippcobkbaaaGreat.Tk
