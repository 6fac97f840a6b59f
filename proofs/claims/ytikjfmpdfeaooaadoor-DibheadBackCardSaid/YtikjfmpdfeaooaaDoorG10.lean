/- Texts of one kind, one behind the other: Sca1, Mas2, Sca2, Mas5, Mas4, Mas3. -/
import Derived.IntWalk
import Derived.Lib.Hide
import Derived.LoopTactic
import Derived.OpenShut
import Derived.Outline
import Derived.ProofKit
import Derived.Test.YtikjfmpdfeaooaaDoorRows
import Derived.WalkKit
import Derived.Test.YtikjfmpdfeaooaaDoorG09
/- Layer 8, pure: the nearest of 256, as the code rounds and as the document's search finds it. -/
namespace Go.Proofs.YtikjfmpdfeaooaaDoor.Sc
open Go.ChangeShapes Go.WideShapes Go.ChangeAt Go.RowKit
set_option linter.unusedVariables false

/-- May a sample of a greatest value be? -/
def may (v m : Int) : Bool := decide (1 ≤ m) && decide (m ≤ 4294967295) && decide (0 ≤ v) && decide (v ≤ m)
end Go.Proofs.YtikjfmpdfeaooaaDoor.Sc

/- Layer 9: the document's bits of words, walked: bit, count, Of, Find. -/
namespace Go.Proofs.YtikjfmpdfeaooaaDoor.Ma
open Go.ChangeShapes Go.WideShapes Go.ChangeAt Go.RowKit
open Go.Proofs.YtikjfmpdfeaooaaDoor.Sc
set_option linter.unusedVariables false

theorem and_one_i (x : Int) : bits .and .i64 x 1 = x % 2 := by
  unfold bits
  show IntKind.i64.wrap (((BitVec.ofInt 64 x) &&& (BitVec.ofInt 64 1)).toNat : Int) = x % 2
  have h : ((BitVec.ofInt 64 x) &&& (BitVec.ofInt 64 1)).toNat = (x % 2).toNat := by
    rw [BitVec.toNat_and, BitVec.toNat_ofInt, BitVec.toNat_ofInt]
    have e : ((1 : Int) % ((2 ^ 64 : Nat) : Int)).toNat = 1 := by decide
    rw [e, Nat.and_one_is_mod]
    omega
  rw [h, IntKind.wrap_i64]
  omega

/-- Is bit i of a number 1? -/
def bitI (w : Int) (i : Nat) : Bool := w / 2 ^ i % 2 == 1
theorem bitI_nat (w i : Nat) : bitI (w : Int) i = decide (bitN w i = 1) := by
  unfold bitI bitN
  have e : (w : Int) / 2 ^ i % 2 = ((w / 2 ^ i % 2 : Nat) : Int) := by simp
  rw [e]
  by_cases h : w / 2 ^ i % 2 = 1
  · rw [h]; simp
  · have : w / 2 ^ i % 2 = 0 := by omega
    rw [this]; simp
theorem bit_calls (w : Int) (i : Nat) (W : World) (hi : i < 64) : Calls Tryd.prog 71 #[.int .i64 w, .int .i64 i] W fun e w' => e = .returned (.bool (bitI w i)) ∧ W = w' := by
  unfold bitI
  obtain ⟨q, hq⟩ : ∃ q, w / 2 ^ i = q := ⟨_, rfl⟩
  have ha := and_one_i q
  obtain ⟨r, hr⟩ : ∃ r, q % 2 = r := ⟨_, rfl⟩
  rw [hr] at ha
  rw [hq, hr]
  clear hr
  go_enter Tryd.func71, Tryd.ntmps71
  go_wp2
  go_ret
  exact ⟨rfl, rfl⟩

theorem cnt_le (w : Nat) : ∀ i, cnt w i ≤ i
  | 0 => Nat.le_refl _
  | i + 1 => by
    have := cnt_le w i
    have := bitN_lt w i
    show cnt w i + bitN w i ≤ i + 1
    omega

end Go.Proofs.YtikjfmpdfeaooaaDoor.Ma

/- Package scale and the document's answers for layer 8: contracts. -/
namespace Go.Proofs.YtikjfmpdfeaooaaDoor.Sc
open Go.ChangeShapes Go.WideShapes Go.ChangeAt Go.RowKit
set_option linter.unusedVariables false

def pw (n : Nat) : Int := ((2 ^ n : Nat) : Int)
theorem pw_le {n : Nat} (h : n ≤ 32) : 1 ≤ pw n ∧ pw n ≤ 4294967296 := by
  have h1 : 2 ^ n ≤ 2 ^ 32 := Nat.pow_le_pow_right (by decide) h
  have h2 : 0 < 2 ^ n := Nat.pow_pos (by decide)
  have h3 : (2 : Nat) ^ 32 = 4294967296 := by decide
  unfold pw
  omega
theorem pw_succ (n : Nat) : pw (n + 1) = 2 * pw n := by unfold pw; rw [Nat.pow_succ]; omega
theorem power_calls (n : Nat) (w : World) (hn : n ≤ 32) : Calls Tryd.prog 34 #[.int .i64 n] w fun e w' => e = .returned (.int .i64 (pw n)) ∧ w = w' := by
  go_enter Tryd.func34, Tryd.ntmps34
  go_wp2
  go_loop [3, 4] (fun v i => ∃ k : Nat, k ≤ n ∧ i = .int .i64 k ∧ v = .int .i64 (pw k)) (fun _ i => n - (intOf i).toNat)
  case atStart => exact ⟨0, Nat.zero_le _, rfl, rfl⟩
  case round =>
    obtain ⟨k, hk, rfl, rfl⟩ := hrel
    by_cases hlt : k < n
    · obtain ⟨b0, b1⟩ := pw_le (show k ≤ 32 by omega)
      have HS := Lib.hid (pw_succ k)
      obtain ⟨p, hp⟩ : ∃ p, pw k = p := ⟨_, rfl⟩
      simp only [hp] at b0 b1 HS ⊢
      clear hp
      go_wp2
      go_round
      case rel => exact ⟨k + 1, by omega, by go_num, by rw [HS.out]⟩
      case measure => simp [intOf]; omega
    · obtain rfl : k = n := by omega
      go_wp2
      go_ret
      exact ⟨rfl, rfl⟩

end Go.Proofs.YtikjfmpdfeaooaaDoor.Sc

/- Layer 9: the document's channel and Both, walked. -/
namespace Go.Proofs.YtikjfmpdfeaooaaDoor.Ma
open Go.ChangeShapes Go.WideShapes Go.ChangeAt Go.RowKit
open Go.Proofs.YtikjfmpdfeaooaaDoor.Sc
set_option linter.unusedVariables false

/-- Have two words a bit in common, below i? -/
def bothB (v w : Nat) : Nat → Bool
  | 0 => false
  | i + 1 => bothB v w i || (decide (bitN v i = 1) && decide (bitN w i = 1))
theorem bothB_up {v w : Nat} {i : Nat} (h : bothB v w i = true) : ∀ k, bothB v w (i + k) = true
  | 0 => h
  | k + 1 => by show (bothB v w (i + k) || _) = true; rw [bothB_up h k]; rfl

set_option maxRecDepth 100000 in
theorem both_calls (v w : Nat) (W : World) : Calls Tryd.prog 66 #[.int .i64 v, .int .i64 w] W fun e w' => e = .returned (.bool (bothB v w 32)) ∧ W = w' := by
  obtain ⟨N, hN⟩ : ∃ N, bothB v w 32 = N := ⟨_, rfl⟩
  have HN := Lib.hid hN
  rw [hN]
  clear hN
  go_enter Tryd.func66, Tryd.ntmps66
  go_wp2
  go_loop [5] (fun i => ∃ k : Nat, k ≤ 32 ∧ i = .int .i64 (k : Int) ∧ bothB v w k = false) (fun i => 32 - (intOf i).toNat)
  case atStart => exact ⟨0, by omega, rfl, rfl⟩
  case round =>
    obtain ⟨k, hk, rfl, hb⟩ := hrel
    by_cases hlt : k < 32
    · have B := bit_calls v k W (by omega)
      rw [bitI_nat] at B
      have D := bit_calls w k W (by omega)
      rw [bitI_nat] at D
      have hs : bothB v w (k + 1) = (bothB v w k || (decide (bitN v k = 1) && decide (bitN w k = 1))) := rfl
      rw [hb] at hs
      have HU := Lib.hid (fun (h : bothB v w (k + 1) = true) => bothB_up h (31 - k))
      clear hb
      by_cases h1 : bitN v k = 1
      · rw [decide_eq_true h1] at B hs
        have B' := Lib.hid B
        by_cases h2 : bitN w k = 1
        · rw [decide_eq_true h2] at D hs
          have D' := Lib.hid D
          have hn : N = true := by
            rw [← HN.out, show 32 = k + 1 + (31 - k) from by omega]
            exact HU.out hs
          subst hn
          clear B D hs h1 h2
          go_wp2_with fail
          refine B'.out.mono ?_
          rintro e w' ⟨rfl, rfl⟩
          go_wp2_with fail
          refine D'.out.mono ?_
          rintro e w' ⟨rfl, rfl⟩
          go_wp2
          go_ret
          exact ⟨rfl, rfl⟩
        · rw [decide_eq_false h2] at D hs
          have D' := Lib.hid D
          have HS := Lib.hid hs
          clear B D hs h1 h2
          go_wp2_with fail
          refine B'.out.mono ?_
          rintro e w' ⟨rfl, rfl⟩
          go_wp2_with fail
          refine D'.out.mono ?_
          rintro e w' ⟨rfl, rfl⟩
          go_wp2
          go_round
          case rel => exact ⟨k + 1, by omega, by go_num, HS.out⟩
          case measure => simp [intOf]; omega
      · rw [decide_eq_false h1] at B hs
        have B' := Lib.hid B
        have HS := Lib.hid (show bothB v w (k + 1) = false by rw [hs]; rfl)
        clear B D hs h1
        go_wp2_with fail
        refine B'.out.mono ?_
        rintro e w' ⟨rfl, rfl⟩
        go_wp2
        go_round
        case rel => exact ⟨k + 1, by omega, by go_num, HS.out⟩
        case measure => simp [intOf]; omega
    · have hk32 : k = 32 := by omega
      obtain rfl : N = false := by rw [← HN.out, ← hk32]; exact hb
      have hge : (32 : Int) ≤ k := by omega
      clear hb
      go_wp2
      go_ret
      exact ⟨rfl, rfl⟩

/-- Of words of bits side by side below 32: do they lie apart? -/
theorem bothB_iff (v w : Nat) : ∀ i, bothB v w i = true ↔ ∃ k, k < i ∧ bitN v k = 1 ∧ bitN w k = 1
  | 0 => by simp [bothB]
  | i + 1 => by
    show (bothB v w i || (decide (bitN v i = 1) && decide (bitN w i = 1))) = true ↔ _
    rw [Bool.or_eq_true, Bool.and_eq_true, decide_eq_true_eq, decide_eq_true_eq, bothB_iff v w i]
    constructor
    · rintro (⟨k, h1, h2, h3⟩ | ⟨h2, h3⟩)
      · exact ⟨k, by omega, h2, h3⟩
      · exact ⟨i, by omega, h2, h3⟩
    · rintro ⟨k, h1, h2, h3⟩
      by_cases hk : k = i
      · subst hk; exact .inr ⟨h2, h3⟩
      · exact .inl ⟨k, by omega, h2, h3⟩

end Go.Proofs.YtikjfmpdfeaooaaDoor.Ma

/- Layer 9: the document's Find, walked. -/
namespace Go.Proofs.YtikjfmpdfeaooaaDoor.Ma
open Go.ChangeShapes Go.WideShapes Go.ChangeAt Go.RowKit
open Go.Proofs.YtikjfmpdfeaooaaDoor.Sc
set_option linter.unusedVariables false

theorem runs_le (w : Nat) : ∀ i, runs w i ≤ i ∧ frm w i ≤ i
  | 0 => ⟨Nat.le_refl _, Nat.le_refl _⟩
  | i + 1 => by
    obtain ⟨a, b⟩ := runs_le w i
    have : (starts w i).toNat ≤ 1 := by cases starts w i <;> decide
    refine ⟨by show runs w i + (starts w i).toNat ≤ i + 1; omega, ?_⟩
    show (if starts w i then i else frm w i) ≤ i + 1
    split <;> omega

/-- What the document's Find tells of a word: where, how many, an error's number. -/
def findV (w n : Nat) : Int × Int × Int := if 1 < runs w n then (0, 0, 6) else ((frm w n : Int), (cnt w n : Int), 0)

set_option maxRecDepth 100000 in
set_option maxHeartbeats 2000000 in
theorem rfind_calls (w n : Nat) (W : World) (hn : n = 16 ∨ n = 32) (h : (w : Int) < pw n) :
    Calls Tryd.prog 65 #[.int .i64 w, .int .i64 n] W fun e w' => e = .returned (.tuple #[.int .i64 (findV w n).1, .int .i64 (findV w n).2.1, .int .i64 (findV w n).2.2]) ∧ W = w' := by
  have P := power_calls n W (by omega)
  obtain ⟨b0, b1⟩ := pw_le (show n ≤ 32 by omega)
  obtain ⟨p, hp⟩ : ∃ p, pw n = p := ⟨_, rfl⟩
  rw [hp] at P b0 b1 h
  have P' := Lib.hid P
  obtain ⟨F, hF⟩ : ∃ F, findV w n = F := ⟨_, rfl⟩
  have HF := Lib.hid hF
  rw [hF]
  have n32 : n ≤ 32 := by omega
  have hn1 : ((n : Int) != 16) = false ∨ ((n : Int) != 16) = true ∧ ((n : Int) != 32) = false := by
    rcases hn with rfl | rfl
    · exact .inl rfl
    · exact .inr ⟨rfl, rfl⟩
  clear P hp hF hn
  rcases hn1 with e1 | ⟨e1, e2⟩
  all_goals
    go_enter Tryd.func65, Tryd.ntmps65
    go_wp2_with fail
    refine P'.out.mono ?_
    rintro e w' ⟨rfl, rfl⟩
    go_wp2_with fail
    go_loop [7, 8, 9, 10] (fun f c r i => ∃ k a b d : Nat, k ≤ n ∧ i = .int .i64 (k : Int) ∧ f = .int .i64 (a : Int) ∧ c = .int .i64 (b : Int) ∧ r = .int .i64 (d : Int) ∧ frm w k = a ∧ cnt w k = b ∧ runs w k = d) (fun _ _ _ i => n - (intOf i).toNat)
    case atStart => exact ⟨0, 0, 0, 0, by omega, rfl, rfl, rfl, rfl, rfl, rfl, rfl⟩
    case round =>
      obtain ⟨k, a, b, d, hk, rfl, rfl, rfl, rfl, ha, hb, hd⟩ := hrel
      by_cases hlt : k < n
      · have B := bit_calls w k W (by omega)
        rw [bitI_nat] at B
        have q1 := cnt_le w k
        obtain ⟨q2, q3⟩ := runs_le w k
        rw [hb] at q1
        rw [hd] at q2
        rw [ha] at q3
        have s1 : cnt w (k + 1) = b + bitN w k := by rw [← hb]; rfl
        have s2 : runs w (k + 1) = d + (starts w k).toNat := by rw [← hd]; rfl
        have s3 : frm w (k + 1) = if starts w k then k else a := by rw [← ha]; rfl
        have hbb := bitN_lt w k
        clear ha hb hd
        by_cases h1 : bitN w k = 1
        · rw [decide_eq_true h1] at B
          have B' := Lib.hid B
          rw [h1] at s1
          by_cases hk0 : k = 0
          · subst hk0
            have hst : starts w 0 = true := by unfold starts; simp [h1]
            rw [hst] at s2 s3
            simp only [if_true, Bool.toNat_true] at s2 s3
            have S1 := Lib.hid s1
            have S2 := Lib.hid s2
            have S3 := Lib.hid s3
            clear B s1 s2 s3 h1 hst hbb
            go_wp2_with fail
            refine B'.out.mono ?_
            rintro e w' ⟨rfl, rfl⟩
            go_wp2_with fail
            go_round
            case rel => exact ⟨0 + 1, 0, b + 1, d + 1, by omega, by go_num, by first | rfl | go_num, by go_num, by go_num, S3.out, S1.out, S2.out⟩
            case measure => simp [intOf]; omega
          · have D := bit_calls w (k - 1) W (by omega)
            rw [bitI_nat] at D
            have ek : ((k - 1 : Nat) : Int) = (k : Int) - 1 := by omega
            rw [ek] at D
            have hkz : ((k : Int) == 0) = false := by rw [beq_eq_false_iff_ne]; omega
            by_cases h2 : bitN w (k - 1) = 1
            · rw [decide_eq_true h2] at D
              have D' := Lib.hid D
              have hst : starts w k = false := by unfold starts; simp [h1, h2, hk0]
              rw [hst] at s2 s3
              simp only [Bool.false_eq_true, if_false, Bool.toNat_false] at s2 s3
              have S1 := Lib.hid s1
              have S2 := Lib.hid s2
              have S3 := Lib.hid s3
              clear B D s1 s2 s3 h1 h2 hst hbb ek
              go_wp2_with fail
              refine B'.out.mono ?_
              rintro e w' ⟨rfl, rfl⟩
              go_wp2_with fail
              refine D'.out.mono ?_
              rintro e w' ⟨rfl, rfl⟩
              go_wp2_with fail
              go_round
              case rel => exact ⟨k + 1, a, b + 1, d, by omega, by go_num, rfl, by go_num, rfl, S3.out, S1.out, S2.out⟩
              case measure => simp [intOf]; omega
            · rw [decide_eq_false h2] at D
              have D' := Lib.hid D
              have hst : starts w k = true := by unfold starts; simp [h1, h2]
              rw [hst] at s2 s3
              simp only [if_true, Bool.toNat_true] at s2 s3
              have S1 := Lib.hid s1
              have S2 := Lib.hid s2
              have S3 := Lib.hid s3
              clear B D s1 s2 s3 h1 h2 hst hbb ek
              go_wp2_with fail
              refine B'.out.mono ?_
              rintro e w' ⟨rfl, rfl⟩
              go_wp2_with fail
              refine D'.out.mono ?_
              rintro e w' ⟨rfl, rfl⟩
              go_wp2_with fail
              go_round
              case rel => exact ⟨k + 1, k, b + 1, d + 1, by omega, by go_num, rfl, by go_num, by go_num, S3.out, S1.out, S2.out⟩
              case measure => simp [intOf]; omega
        · rw [decide_eq_false h1] at B
          have B' := Lib.hid B
          have hst : starts w k = false := by unfold starts; simp [h1]
          rw [hst] at s2 s3
          rw [show bitN w k = 0 from by omega, Nat.add_zero] at s1
          simp only [Bool.false_eq_true, if_false, Bool.toNat_false] at s2 s3
          have S1 := Lib.hid s1
          have S2 := Lib.hid s2
          have S3 := Lib.hid s3
          clear B s1 s2 s3 h1 hst hbb
          go_wp2_with fail
          refine B'.out.mono ?_
          rintro e w' ⟨rfl, rfl⟩
          go_wp2_with fail
          go_round
          case rel => exact ⟨k + 1, a, b, d, by omega, by go_num, rfl, rfl, rfl, S3.out, S1.out, S2.out⟩
          case measure => simp [intOf]; omega
      · have hkn : k = n := by omega
        subst hkn
        have hF := HF.out
        unfold findV at hF
        rw [ha, hb, hd] at hF
        clear ha hb hd
        by_cases hd1 : 1 < d
        · rw [if_pos hd1] at hF
          subst hF
          go_wp2
          refine bodyPost_ret (v := .tuple #[.int .i64 0, .int .i64 0, .int .i64 6]) (by simp [results, Tryd.results65, go_sem]) rfl ⟨rfl, rfl⟩
        · rw [if_neg hd1] at hF
          subst hF
          go_wp2
          refine bodyPost_ret (v := .tuple #[.int .i64 a, .int .i64 b, .int .i64 0]) (by simp [results, Tryd.results65, go_sem]) rfl ⟨rfl, rfl⟩

end Go.Proofs.YtikjfmpdfeaooaaDoor.Ma

/- Layer 9: the document's Find of wrong arguments, walked. -/
namespace Go.Proofs.YtikjfmpdfeaooaaDoor.Ma
open Go.ChangeShapes Go.WideShapes Go.ChangeAt Go.RowKit
open Go.Proofs.YtikjfmpdfeaooaaDoor.Sc
set_option linter.unusedVariables false

theorem rfind_arg (w width : Int) (W : World) (h1 : width ≠ 16) (h2 : width ≠ 32) : Calls Tryd.prog 65 #[.int .i64 w, .int .i64 width] W fun e w' => e = .returned (.tuple #[.int .i64 0, .int .i64 0, .int .i64 1]) ∧ W = w' := by
  have e1 : (width != 16) = true := by simpa using h1
  have e2 : (width != 32) = true := by simpa using h2
  go_enter Tryd.func65, Tryd.ntmps65
  go_wp2
  refine bodyPost_ret (v := .tuple #[.int .i64 0, .int .i64 0, .int .i64 1]) (by simp [results, Tryd.results65, go_sem]) rfl ⟨rfl, rfl⟩

theorem rfind_range (w : Int) (n : Nat) (W : World) (hn : n = 16 ∨ n = 32) (h : w < 0 ∨ pw n ≤ w) : Calls Tryd.prog 65 #[.int .i64 w, .int .i64 n] W fun e w' => e = .returned (.tuple #[.int .i64 0, .int .i64 0, .int .i64 2]) ∧ W = w' := by
  have P := power_calls n W (by omega)
  obtain ⟨b0, b1⟩ := pw_le (show n ≤ 32 by omega)
  obtain ⟨p, hp⟩ : ∃ p, pw n = p := ⟨_, rfl⟩
  rw [hp] at P b0 b1 h
  have P' := Lib.hid P
  clear P hp
  by_cases h0 : w < 0
  · clear h
    rcases hn with rfl | rfl
    all_goals
      go_enter Tryd.func65, Tryd.ntmps65
      go_wp2
      refine bodyPost_ret (v := .tuple #[.int .i64 0, .int .i64 0, .int .i64 2]) (by simp [results, Tryd.results65, go_sem]) rfl ⟨rfl, rfl⟩
  · have h1 : p ≤ w := by omega
    clear h
    rcases hn with rfl | rfl
    all_goals
      go_enter Tryd.func65, Tryd.ntmps65
      go_wp2_with fail
      refine P'.out.mono ?_
      rintro e w' ⟨rfl, rfl⟩
      go_wp2
      refine bodyPost_ret (v := .tuple #[.int .i64 0, .int .i64 0, .int .i64 2]) (by simp [results, Tryd.results65, go_sem]) rfl ⟨rfl, rfl⟩


end Go.Proofs.YtikjfmpdfeaooaaDoor.Ma
