/- Layer 30: the document's signs (written by wip/gen/sn12.py). -/
import Derived.Test.YtibbebglbcjnmaaDoorSnG
namespace Go.Proofs.YtibbebglbcjnmaaDoor.Sn
open Go.ChangeShapes Go.WideShapes Go.ChangeAt Go.RowKit
open Go.Proofs.YtibbebglbcjnmaaDoor.Le Go.Proofs.YtibbebglbcjnmaaDoor.Tk Go.Proofs.YtibbebglbcjnmaaDoor.Dh Go.Proofs.YtibbebglbcjnmaaDoor.Id
set_option linter.unusedVariables false

set_option maxRecDepth 100000 in
set_option maxHeartbeats 4000000 in
theorem rhas_1 (s : ByteArray) (W : World) : Calls Tryd.prog 12 #[.string s, .int .i64 1] W fun r w' => r = .returned (.bool (isB ⟨#[66, 77]⟩ s)) ∧ W = w' := by
  have hT : (⟨#[66, 77]⟩ : ByteArray).toList = [66, 77] := by rw [ByteArray.toList_eq]
  have hS : (⟨#[66, 77]⟩ : ByteArray).size = 2 := rfl
  by_cases hl : 2 ≤ s.size
  · rw [show isB ⟨#[66, 77]⟩ s = ((s.extract 0 2).toList == [66, 77]) by show isB (⟨#[66, 77]⟩ : ByteArray) s = _; unfold isB; rw [hS, hT, decide_eq_true hl, Bool.true_and]]
    have hn : (2 : Int) ≤ (s.size : Int) := by omega
    have HC := fun w => head_at s 2 hl w
    obtain ⟨z, hz⟩ : ∃ z, s.extract 0 2 = z := ⟨_, rfl⟩
    rw [hz] at HC ⊢
    have HC2 : ∀ w, (Instr.slice 9 (.string s) none (some (.int .i64 2)) none).run Tryd.prog w = .ok (.string z) w := HC
    clear HC hz hl hT hS
    go_enter Tryd.func12, Tryd.ntmps12
    go_upto_region 1 with fail
    conv => arg 4; dsimp only
    go_wp2_with fail
    go_ret
    exact ⟨rfl, rfl⟩
  · rw [show isB ⟨#[66, 77]⟩ s = false by show isB (⟨#[66, 77]⟩ : ByteArray) s = _; unfold isB; rw [hS, decide_eq_false hl]; rfl]
    have hn : ¬ (2 : Int) ≤ (s.size : Int) := by omega
    clear hl hT hS
    go_enter Tryd.func12, Tryd.ntmps12
    go_upto_region 1 with fail
    conv => arg 4; dsimp only
    go_wp2_with fail
    go_ret
    exact ⟨rfl, rfl⟩


set_option maxRecDepth 100000 in
set_option maxHeartbeats 4000000 in
theorem rhas_5 (s : ByteArray) (W : World) : Calls Tryd.prog 12 #[.string s, .int .i64 5] W fun r w' => r = .returned (.bool (isB qoS s)) ∧ W = w' := by
  have hT : (⟨#[113, 111, 105, 102]⟩ : ByteArray).toList = [113, 111, 105, 102] := by rw [ByteArray.toList_eq]
  have hS : (⟨#[113, 111, 105, 102]⟩ : ByteArray).size = 4 := rfl
  by_cases hl : 4 ≤ s.size
  · rw [show isB qoS s = ((s.extract 0 4).toList == [113, 111, 105, 102]) by show isB (⟨#[113, 111, 105, 102]⟩ : ByteArray) s = _; unfold isB; rw [hS, hT, decide_eq_true hl, Bool.true_and]]
    have hn : (4 : Int) ≤ (s.size : Int) := by omega
    have HC := fun w => head_at s 4 hl w
    obtain ⟨z, hz⟩ : ∃ z, s.extract 0 4 = z := ⟨_, rfl⟩
    rw [hz] at HC ⊢
    have HC4 : ∀ w, (Instr.slice 9 (.string s) none (some (.int .i64 4)) none).run Tryd.prog w = .ok (.string z) w := HC
    clear HC hz hl hT hS
    go_enter Tryd.func12, Tryd.ntmps12
    go_upto_region 1 with fail
    conv => arg 4; dsimp only
    go_wp2_with fail
    go_ret
    exact ⟨rfl, rfl⟩
  · rw [show isB qoS s = false by show isB (⟨#[113, 111, 105, 102]⟩ : ByteArray) s = _; unfold isB; rw [hS, decide_eq_false hl]; rfl]
    have hn : ¬ (4 : Int) ≤ (s.size : Int) := by omega
    clear hl hT hS
    go_enter Tryd.func12, Tryd.ntmps12
    go_upto_region 1 with fail
    conv => arg 4; dsimp only
    go_wp2_with fail
    go_ret
    exact ⟨rfl, rfl⟩


set_option maxRecDepth 100000 in
set_option maxHeartbeats 4000000 in
theorem rhas_6 (s : ByteArray) (W : World) : Calls Tryd.prog 12 #[.string s, .int .i64 6] W fun r w' => r = .returned (.bool (isB ffS s)) ∧ W = w' := by
  have hT : (⟨#[102, 97, 114, 98, 102, 101, 108, 100]⟩ : ByteArray).toList = [102, 97, 114, 98, 102, 101, 108, 100] := by rw [ByteArray.toList_eq]
  have hS : (⟨#[102, 97, 114, 98, 102, 101, 108, 100]⟩ : ByteArray).size = 8 := rfl
  by_cases hl : 8 ≤ s.size
  · rw [show isB ffS s = ((s.extract 0 8).toList == [102, 97, 114, 98, 102, 101, 108, 100]) by show isB (⟨#[102, 97, 114, 98, 102, 101, 108, 100]⟩ : ByteArray) s = _; unfold isB; rw [hS, hT, decide_eq_true hl, Bool.true_and]]
    have hn : (8 : Int) ≤ (s.size : Int) := by omega
    have HC := fun w => head_at s 8 hl w
    obtain ⟨z, hz⟩ : ∃ z, s.extract 0 8 = z := ⟨_, rfl⟩
    rw [hz] at HC ⊢
    have HC8 : ∀ w, (Instr.slice 9 (.string s) none (some (.int .i64 8)) none).run Tryd.prog w = .ok (.string z) w := HC
    clear HC hz hl hT hS
    go_enter Tryd.func12, Tryd.ntmps12
    go_upto_region 1 with fail
    conv => arg 4; dsimp only
    go_wp2_with fail
    go_ret
    exact ⟨rfl, rfl⟩
  · rw [show isB ffS s = false by show isB (⟨#[102, 97, 114, 98, 102, 101, 108, 100]⟩ : ByteArray) s = _; unfold isB; rw [hS, decide_eq_false hl]; rfl]
    have hn : ¬ (8 : Int) ≤ (s.size : Int) := by omega
    clear hl hT hS
    go_enter Tryd.func12, Tryd.ntmps12
    go_upto_region 1 with fail
    conv => arg 4; dsimp only
    go_wp2_with fail
    go_ret
    exact ⟨rfl, rfl⟩


set_option maxRecDepth 100000 in
set_option maxHeartbeats 4000000 in
theorem rhas_8 (s : ByteArray) (W : World) : Calls Tryd.prog 12 #[.string s, .int .i64 8] W fun r w' => r = .returned (.bool (isB suS s)) ∧ W = w' := by
  have hT : (⟨#[89, 166, 106, 149]⟩ : ByteArray).toList = [89, 166, 106, 149] := by rw [ByteArray.toList_eq]
  have hS : (⟨#[89, 166, 106, 149]⟩ : ByteArray).size = 4 := rfl
  by_cases hl : 4 ≤ s.size
  · rw [show isB suS s = ((s.extract 0 4).toList == [89, 166, 106, 149]) by show isB (⟨#[89, 166, 106, 149]⟩ : ByteArray) s = _; unfold isB; rw [hS, hT, decide_eq_true hl, Bool.true_and]]
    have hn : (4 : Int) ≤ (s.size : Int) := by omega
    have HC := fun w => head_at s 4 hl w
    obtain ⟨z, hz⟩ : ∃ z, s.extract 0 4 = z := ⟨_, rfl⟩
    rw [hz] at HC ⊢
    have HC4 : ∀ w, (Instr.slice 9 (.string s) none (some (.int .i64 4)) none).run Tryd.prog w = .ok (.string z) w := HC
    clear HC hz hl hT hS
    go_enter Tryd.func12, Tryd.ntmps12
    go_upto_region 1 with fail
    conv => arg 4; dsimp only
    go_wp2_with fail
    go_ret
    exact ⟨rfl, rfl⟩
  · rw [show isB suS s = false by show isB (⟨#[89, 166, 106, 149]⟩ : ByteArray) s = _; unfold isB; rw [hS, decide_eq_false hl]; rfl]
    have hn : ¬ (4 : Int) ≤ (s.size : Int) := by omega
    clear hl hT hS
    go_enter Tryd.func12, Tryd.ntmps12
    go_upto_region 1 with fail
    conv => arg 4; dsimp only
    go_wp2_with fail
    go_ret
    exact ⟨rfl, rfl⟩


set_option maxRecDepth 100000 in
set_option maxHeartbeats 4000000 in
theorem rhas_2 (s : ByteArray) (W : World) : Calls Tryd.prog 12 #[.string s, .int .i64 2] W fun r w' => r = .returned (.bool (Tg.tgB s)) ∧ W = w' := by
  have K := Lib.hid (fun u => ris_calls s u)
  obtain ⟨b, hb⟩ : ∃ b, Tg.tgB s = b := ⟨_, rfl⟩
  rw [hb] at K ⊢
  clear hb
  go_enter Tryd.func12, Tryd.ntmps12
  go_upto_region 1 with fail
  conv => arg 4; dsimp only
  go_wp2_with (first | (go_at_call 25; refine (K.out _).mono ?_; clear K; rintro e w' ⟨rfl, rfl⟩) | go_in)
  go_ret
  exact ⟨rfl, rfl⟩

set_option maxRecDepth 100000 in
set_option maxHeartbeats 4000000 in
theorem rhas_none (s : ByteArray) (f : Int) (h : f < 1 ∨ 8 < f) (W : World) : Calls Tryd.prog 12 #[.string s, .int .i64 f] W fun r w' => r = .returned (.bool false) ∧ W = w' := by
  have d1 : (f == 1) = false := by rw [beq_eq_false_iff_ne]; omega
  have n1 : ¬ f = 1 := by omega
  have d2 : (f == 2) = false := by rw [beq_eq_false_iff_ne]; omega
  have n2 : ¬ f = 2 := by omega
  have d3 : (f == 3) = false := by rw [beq_eq_false_iff_ne]; omega
  have n3 : ¬ f = 3 := by omega
  have d4 : (f == 4) = false := by rw [beq_eq_false_iff_ne]; omega
  have n4 : ¬ f = 4 := by omega
  have d5 : (f == 5) = false := by rw [beq_eq_false_iff_ne]; omega
  have n5 : ¬ f = 5 := by omega
  have d6 : (f == 6) = false := by rw [beq_eq_false_iff_ne]; omega
  have n6 : ¬ f = 6 := by omega
  have d7 : (f == 7) = false := by rw [beq_eq_false_iff_ne]; omega
  have n7 : ¬ f = 7 := by omega
  have d8 : (f == 8) = false := by rw [beq_eq_false_iff_ne]; omega
  have n8 : ¬ f = 8 := by omega
  clear h
  go_enter Tryd.func12, Tryd.ntmps12
  go_upto_region 1 with fail
  conv => arg 4; dsimp only
  go_wp2_with fail
  go_ret
  exact ⟨rfl, rfl⟩

end Go.Proofs.YtibbebglbcjnmaaDoor.Sn
