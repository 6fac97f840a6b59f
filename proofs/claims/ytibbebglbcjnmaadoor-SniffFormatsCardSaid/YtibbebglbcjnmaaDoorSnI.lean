/- Layer 30: the document's signs (written by wip/gen/sn12.py). -/
import Derived.Test.YtibbebglbcjnmaaDoorSnG
namespace Go.Proofs.YtibbebglbcjnmaaDoor.Sn
open Go.ChangeShapes Go.WideShapes Go.ChangeAt Go.RowKit
open Go.Proofs.YtibbebglbcjnmaaDoor.Le Go.Proofs.YtibbebglbcjnmaaDoor.Tk Go.Proofs.YtibbebglbcjnmaaDoor.Dh Go.Proofs.YtibbebglbcjnmaaDoor.Id
set_option linter.unusedVariables false

set_option maxRecDepth 100000 in
set_option maxHeartbeats 4000000 in
theorem rhas_3 (s : ByteArray) (b : Bool) (hb : Beg s b) (W : World) : Calls Tryd.prog 12 #[.string s, .int .i64 3] W fun r w' => r = .returned (.bool b) ∧ W = w' := by
  cases hb with
  | short h =>
    have d0 : ¬ (2 : Int) < (s.size : Int) := by omega
    clear h
    go_enter Tryd.func12, Tryd.ntmps12
    go_upto_region 1 with fail
    conv => arg 4; dsimp only
    go_wp2_with fail
    go_ret
    exact ⟨rfl, rfl⟩
  | first x h hx h1 =>
    have d0 : (2 : Int) < (s.size : Int) := by omega
    have c0 := bt_cell s 0 (by omega) hx
    have ex : ((x : Int) == 80) = false := by rw [beq_eq_false_iff_ne]; omega
    have nx : ¬ (x : Int) = 80 := by omega
    clear hx h1
    go_enter Tryd.func12, Tryd.ntmps12
    go_upto_region 1 with fail
    conv => arg 4; dsimp only
    go_wp2_with fail
    go_ret
    exact ⟨rfl, rfl⟩
  | low y h hx hy h1 =>
    have d0 : (2 : Int) < (s.size : Int) := by omega
    have c0 := bt_cell s 0 (by omega) hx
    have c1 := bt_cell s 1 (by omega) hy
    have l1 : ¬ (49 : Int) ≤ (y : Int) := by omega
    clear hx hy h1
    go_enter Tryd.func12, Tryd.ntmps12
    go_upto_region 1 with fail
    conv => arg 4; dsimp only
    go_wp2_with fail
    go_ret
    exact ⟨rfl, rfl⟩
  | high y h hx hy h1 =>
    have d0 : (2 : Int) < (s.size : Int) := by omega
    have c0 := bt_cell s 0 (by omega) hx
    have c1 := bt_cell s 1 (by omega) hy
    have l1 : (49 : Int) ≤ (y : Int) := by omega
    have l2 : ¬ (y : Int) ≤ 54 := by omega
    clear hx hy h1
    go_enter Tryd.func12, Tryd.ntmps12
    go_upto_region 1 with fail
    conv => arg 4; dsimp only
    go_wp2_with fail
    go_ret
    exact ⟨rfl, rfl⟩
  | sharp y h hx hy h1 h2 hz =>
    have d0 : (2 : Int) < (s.size : Int) := by omega
    have c0 := bt_cell s 0 (by omega) hx
    have c1 := bt_cell s 1 (by omega) hy
    have c2 := bt_cell s 2 (by omega) hz
    have l1 : (49 : Int) ≤ (y : Int) := by omega
    have l2 : (y : Int) ≤ 54 := by omega
    have KB := fun u => rblank_calls 35 (by decide) u
    rw [show blankB 35 = false by decide] at KB
    have KB := Lib.hid KB
    clear hx hy hz h1 h2
    go_enter Tryd.func12, Tryd.ntmps12
    go_upto_region 1 with fail
    conv => arg 4; dsimp only
    go_wp2_with (first | (go_at_call 26; refine (KB.out _).mono ?_; clear KB; rintro e w' ⟨rfl, rfl⟩) | go_in)
    go_ret
    exact ⟨rfl, rfl⟩
  | blank y z h hx hy h1 h2 hz h3 h4 =>
    have d0 : (2 : Int) < (s.size : Int) := by omega
    have c0 := bt_cell s 0 (by omega) hx
    have c1 := bt_cell s 1 (by omega) hy
    have c2 := bt_cell s 2 (by omega) hz
    have l1 : (49 : Int) ≤ (y : Int) := by omega
    have l2 : (y : Int) ≤ 54 := by omega
    have ez : ((z : Int) == 35) = false := by rw [beq_eq_false_iff_ne]; omega
    have nz : ¬ (z : Int) = 35 := by omega
    have z256 : z < 256 := by rw [← hz]; exact bt_lt s 2
    have KB := fun u => rblank_calls z z256 u
    rw [h4] at KB
    have KB := Lib.hid KB
    clear hx hy hz h1 h2 h3 h4
    go_enter Tryd.func12, Tryd.ntmps12
    go_upto_region 1 with fail
    conv => arg 4; dsimp only
    go_wp2_with (first | (go_at_call 26; refine (KB.out _).mono ?_; clear KB; rintro e w' ⟨rfl, rfl⟩) | go_in)
    go_ret
    exact ⟨rfl, rfl⟩
  | other y z h hx hy h1 h2 hz h3 h4 =>
    have d0 : (2 : Int) < (s.size : Int) := by omega
    have c0 := bt_cell s 0 (by omega) hx
    have c1 := bt_cell s 1 (by omega) hy
    have c2 := bt_cell s 2 (by omega) hz
    have l1 : (49 : Int) ≤ (y : Int) := by omega
    have l2 : (y : Int) ≤ 54 := by omega
    have ez : ((z : Int) == 35) = false := by rw [beq_eq_false_iff_ne]; omega
    have nz : ¬ (z : Int) = 35 := by omega
    have z256 : z < 256 := by rw [← hz]; exact bt_lt s 2
    have KB := fun u => rblank_calls z z256 u
    rw [h4] at KB
    have KB := Lib.hid KB
    clear hx hy hz h1 h2 h3 h4
    go_enter Tryd.func12, Tryd.ntmps12
    go_upto_region 1 with fail
    conv => arg 4; dsimp only
    go_wp2_with (first | (go_at_call 26; refine (KB.out _).mono ?_; clear KB; rintro e w' ⟨rfl, rfl⟩) | go_in)
    go_ret
    exact ⟨rfl, rfl⟩

set_option maxRecDepth 100000 in
set_option maxHeartbeats 4000000 in
theorem rhas_7 (s : ByteArray) (b : Bool) (hb : Pb s b) (W : World) : Calls Tryd.prog 12 #[.string s, .int .i64 7] W fun r w' => r = .returned (.bool b) ∧ W = w' := by
  cases hb with
  | short h =>
    have d0 : ¬ (4 : Int) ≤ (s.size : Int) := by omega
    clear h
    go_enter Tryd.func12, Tryd.ntmps12
    go_upto_region 1 with fail
    conv => arg 4; dsimp only
    go_wp2_with fail
    go_ret
    exact ⟨rfl, rfl⟩
  | m x h h0 n0 =>
    have d0 : (4 : Int) ≤ (s.size : Int) := by omega
    have c0 := bt_cell s 0 (by omega) h0
    have ex : ((x : Int) == 10) = false := by rw [beq_eq_false_iff_ne]; omega
    have nx : ¬ (x : Int) = 10 := by omega
    clear h0 n0
    go_enter Tryd.func12, Tryd.ntmps12
    go_upto_region 1 with fail
    conv => arg 4; dsimp only
    go_wp2_with fail
    go_ret
    exact ⟨rfl, rfl⟩
  | v y h h0 h1 n1 =>
    have d0 : (4 : Int) ≤ (s.size : Int) := by omega
    have c0 := bt_cell s 0 (by omega) h0
    have c1 := bt_cell s 1 (by omega) h1
    have KV := fun u => rver_calls y u
    rw [n1] at KV
    have KV := Lib.hid KV
    clear h0 h1 n1
    go_enter Tryd.func12, Tryd.ntmps12
    go_upto_region 1 with fail
    conv => arg 4; dsimp only
    go_wp2_with (first | (go_at_call 27; refine (KV.out _).mono ?_; clear KV; rintro e w' ⟨rfl, rfl⟩) | go_in)
    go_ret
    exact ⟨rfl, rfl⟩
  | p y z h h0 h1 n1 h2 n2 =>
    have d0 : (4 : Int) ≤ (s.size : Int) := by omega
    have c0 := bt_cell s 0 (by omega) h0
    have c1 := bt_cell s 1 (by omega) h1
    have c2 := bt_cell s 2 (by omega) h2
    have KV := fun u => rver_calls y u
    rw [n1] at KV
    have KV := Lib.hid KV
    have ez : ((z : Int) == 1) = false := by rw [beq_eq_false_iff_ne]; omega
    have nz : ¬ (z : Int) = 1 := by omega
    clear h0 h1 n1 h2 n2
    go_enter Tryd.func12, Tryd.ntmps12
    go_upto_region 1 with fail
    conv => arg 4; dsimp only
    go_wp2_with (first | (go_at_call 27; refine (KV.out _).mono ?_; clear KV; rintro e w' ⟨rfl, rfl⟩) | go_in)
    go_ret
    exact ⟨rfl, rfl⟩
  | b y q h h0 h1 n1 h2 h3 n3 n4 =>
    have d0 : (4 : Int) ≤ (s.size : Int) := by omega
    have c0 := bt_cell s 0 (by omega) h0
    have c1 := bt_cell s 1 (by omega) h1
    have c2 := bt_cell s 2 (by omega) h2
    have c3 := bt_cell s 3 (by omega) h3
    have KV := fun u => rver_calls y u
    rw [n1] at KV
    have KV := Lib.hid KV
    have eq1 : ((q : Int) == 1) = false := by rw [beq_eq_false_iff_ne]; omega
    have nq1 : ¬ (q : Int) = 1 := by omega
    have eq8 : ((q : Int) == 8) = false := by rw [beq_eq_false_iff_ne]; omega
    have nq8 : ¬ (q : Int) = 8 := by omega
    clear h0 h1 n1 h2 h3 n3 n4
    go_enter Tryd.func12, Tryd.ntmps12
    go_upto_region 1 with fail
    conv => arg 4; dsimp only
    go_wp2_with (first | (go_at_call 27; refine (KV.out _).mono ?_; clear KV; rintro e w' ⟨rfl, rfl⟩) | go_in)
    go_ret
    exact ⟨rfl, rfl⟩
  | one y h h0 h1 n1 h2 h3 =>
    have d0 : (4 : Int) ≤ (s.size : Int) := by omega
    have c0 := bt_cell s 0 (by omega) h0
    have c1 := bt_cell s 1 (by omega) h1
    have c2 := bt_cell s 2 (by omega) h2
    have c3 := bt_cell s 3 (by omega) h3
    have KV := fun u => rver_calls y u
    rw [n1] at KV
    have KV := Lib.hid KV
    clear h0 h1 n1 h2 h3
    go_enter Tryd.func12, Tryd.ntmps12
    go_upto_region 1 with fail
    conv => arg 4; dsimp only
    go_wp2_with (first | (go_at_call 27; refine (KV.out _).mono ?_; clear KV; rintro e w' ⟨rfl, rfl⟩) | go_in)
    go_ret
    exact ⟨rfl, rfl⟩
  | eight y h h0 h1 n1 h2 h3 =>
    have d0 : (4 : Int) ≤ (s.size : Int) := by omega
    have c0 := bt_cell s 0 (by omega) h0
    have c1 := bt_cell s 1 (by omega) h1
    have c2 := bt_cell s 2 (by omega) h2
    have c3 := bt_cell s 3 (by omega) h3
    have KV := fun u => rver_calls y u
    rw [n1] at KV
    have KV := Lib.hid KV
    clear h0 h1 n1 h2 h3
    go_enter Tryd.func12, Tryd.ntmps12
    go_upto_region 1 with fail
    conv => arg 4; dsimp only
    go_wp2_with (first | (go_at_call 27; refine (KV.out _).mono ?_; clear KV; rintro e w' ⟨rfl, rfl⟩) | go_in)
    go_ret
    exact ⟨rfl, rfl⟩

end Go.Proofs.YtibbebglbcjnmaaDoor.Sn
