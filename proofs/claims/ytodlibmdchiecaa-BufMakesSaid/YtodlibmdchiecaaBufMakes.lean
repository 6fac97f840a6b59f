/- The law BufMakes, walked. -/
import Derived.Test.YtodlibmdchiecaaBuf7
namespace Go.Proofs.Ytodlibmdchiecaa.Bu
open Go.ChangeShapes Go.WideShapes Go.ChangeAt Go.RowKit
open Go.Proofs.Ytodlibmdchiecaa.Le
set_option linter.unusedVariables false

theorem new_any (m : Int) (m1 : m ≤ 9223372036854775807) (w : World) :
    Calls Try.prog 6 #[.agg #[.int .i64 0, .int .i64 0, .int .i64 m, .int .i64 0]] w
      fun e w' => ∃ l, e = .returned (.pointer (some ⟨l, 0, none⟩)) ∧ Keeps l (pos m) 0 w' ∧ w.grownBy w' none ∧ w.heap.size ≤ l := by
  refine (new_calls 0 0 m 0 w).mono ?_
  rintro e w' ⟨l, he, hl, g, hs⟩
  have e1 : St.new 0 0 m 0 = LT (pos m) 0 0 := by
    have h0 : pos 0 = 0 := rfl
    simp [St.new, LT, h0]
  rw [e1] at hl
  exact ⟨l, he, ⟨0, Int.le_refl _, Int.le_refl _, (pos_le (by decide) m1).1, (pos_le (by decide) m1).2, hl⟩, g, hs⟩
theorem spent_k (l : Nat) (m k n : Int) (w : World) (h : Keeps l m k w) (n0 : 0 ≤ n) (hm : m - k < n) :
    Calls Try.prog 7 #[.pointer (some ⟨l, 0, none⟩), .int .i64 n] w
      fun e w' => e = .returned (.tuple #[.pointer none, .int .i64 4]) ∧ (∃ S : LS, S.by_ = k ∧ S.br = 1 ∧ Led l S w') ∧ w.grownBy w' (some l) := by
  obtain ⟨pk, h1, h2, h3, h4, h⟩ := h
  have e1 : (LT m pk k).take n = ((LT m pk k).refuse 2 n, false) := by
    unfold St.take
    rw [if_neg (by simp [LT]), if_pos (by simp only [LT]; omega)]
  refine (make_spent l (LT m pk k) n w h (LT_ok h4 h1 h2 h3) n0 (by rw [e1])).mono ?_
  rintro e w' ⟨he, hl, hg⟩
  rw [e1] at hl
  exact ⟨he, ⟨_, by simp [St.refuse, LT, St.ls], by simp [St.refuse, LT, St.ls], hl⟩, hg⟩

set_option maxRecDepth 100000 in
/-- n is below 0. -/
theorem makes_neg (m n : Int) (m1 : m ≤ 9223372036854775807) (hn : n < 0) (W : World) :
    Calls Try.prog 4 #[.int .i64 m, .int .i64 n] W fun e w' => e = .returned (.bool true) ∧ W.grownBy w' none := by
  go_enter Try.func4, Try.ntmps4
  go_wp2_with fail
  refine (new_any m m1 _).mono ?_
  rintro e w0 ⟨l, rfl, L0, g0, hl⟩
  have G0 := Lib.hid g0
  clear L0 g0
  go_wp2_with fail
  refine (make_arg _ n _ (.inr hn)).mono ?_
  rintro e w' ⟨rfl, rfl⟩
  go_wp2_with fail
  refine (make_arg _ n _ (.inl rfl)).mono ?_
  rintro e w' ⟨rfl, rfl⟩
  go_wp2_with fail
  refine (awake_calls _).mono ?_
  rintro e w1 ⟨rfl, g1⟩
  have G1 := Lib.hid (gb_trans G0.out g1)
  clear g1
  go_wp2
  go_ret
  exact ⟨rfl, G1.out⟩

set_option maxRecDepth 100000 in
/-- The budget doesn't let it. -/
theorem makes_spent (m n : Int) (m1 : m ≤ 9223372036854775807) (n0 : 0 ≤ n) (hn : pos m < n) (W : World) :
    Calls Try.prog 4 #[.int .i64 m, .int .i64 n] W fun e w' => e = .returned (.bool true) ∧ W.grownBy w' none := by
  have hmn : m < n := by unfold pos at hn; split at hn <;> omega
  have hn1 : 0 < n := by unfold pos at hn; split at hn <;> omega
  have HN := Lib.hid hn
  clear hn
  go_enter Try.func4, Try.ntmps4
  go_wp2_with fail
  all_goals
    refine (new_any m m1 _).mono ?_
    rintro e w0 ⟨l, rfl, L0, g0, hl⟩
    have G0 := Lib.hid g0
    have H0 := Lib.hid L0
    clear L0 g0
    go_wp2_with fail
    refine (spent_k l (pos m) 0 n _ H0.out n0 (by have := HN.out; omega)).mono ?_
    rintro e w1 ⟨rfl, ⟨S, sb, sr, L1⟩, g1⟩
    have G1 := Lib.hid (gb_own G0.out hl g1)
    have KB := bytes_calls l S w1 L1
    rw [sb] at KB
    have KR := broken_calls l S w1 L1
    rw [sr, show ((1 : Int) != 0) = true from rfl] at KR
    have KB' := Lib.hid KB
    have KR' := Lib.hid KR
    clear L1 g1 sb sr KB KR G0 H0
    go_wp2_with fail
    refine (make_arg _ n _ (.inl rfl)).mono ?_
    rintro e w' ⟨rfl, rfl⟩
    go_wp2_with (first | (go_at_call 12; refine KB'.out.mono ?_; rintro e w' ⟨rfl, rfl⟩) | (go_at_call 13; refine KR'.out.mono ?_; rintro e w' ⟨rfl, rfl⟩))
    refine (awake_calls _).mono ?_
    rintro e w2 ⟨rfl, g2⟩
    have G2 := Lib.hid (gb_trans G1.out g2)
    clear g2
    go_wp2
    go_ret
    exact ⟨rfl, G2.out⟩

set_option maxRecDepth 100000 in
/-- It does. -/
theorem makes_yes (m : Int) (n : Nat) (m1 : m ≤ 9223372036854775807) (n5 : n ≤ 5000) (hn : n ≤ pos m) (W : World) :
    Calls Try.prog 4 #[.int .i64 m, .int .i64 n] W fun e w' => e = .returned (.bool true) ∧ W.grownBy w' none := by
  have HN := Lib.hid hn
  have hn2 : m < 0 → n = 0 := by unfold pos at hn; intro h; rw [if_pos h] at hn; omega
  have hn3 : 0 ≤ m → (n : Int) ≤ m := by unfold pos at hn; intro h; rwa [if_neg (by omega)] at hn
  clear hn
  have hmx : decide (max m 0 < (n : Int)) = false := by
    simp
    omega
  have hmy : decide ((n : Int) < 0) = false := by simp
  go_enter Try.func4, Try.ntmps4
  go_wp2_with fail
  refine (new_any m m1 _).mono ?_
  rintro e w0 ⟨l, rfl, L0, g0, hl⟩
  have G0 := Lib.hid g0
  have H0 := Lib.hid L0
  clear L0 g0
  go_wp2_with fail
  refine (make_k l (pos m) 0 n _ H0.out (by omega) (by have := HN.out; omega)).mono ?_
  rintro e w1 ⟨b, g, rfl, ⟨B1, L1⟩, g1, hb, hg⟩
  have G1 := Lib.hid (gb_own G0.out hl g1)
  have KB := bytes_k l (pos m) (0 + n) w1 L1
  rw [show (0 + (n : Int)) = n from by omega] at KB
  have KL := len_calls b l g true (rep 0 n) w1 (.inl ⟨rfl, B1⟩)
  have KG := get_yes b l g (rep 0 n) 0 n w1 B1 (by rw [rep_size]; omega)
  have e1 : (rep 0 n).extract 0 (0 + n) = rep 0 n := by
    apply ByteArray.ext
    apply Array.toList_inj.1
    rw [Lib.extract_data, rep_list]
    simp
  rw [e1] at KG
  rw [rep_size] at KL
  have KB' := Lib.hid KB
  have KL' := Lib.hid KL
  have KG' := Lib.hid KG
  have KS := Lib.hid (same_calls 0 n w1 (by omega))
  clear L1 g1 B1 KB KL KG G0 H0 e1
  go_wp2_with fail
  refine (make_arg _ n _ (.inl rfl)).mono ?_
  rintro e w' ⟨rfl, rfl⟩
  obtain ⟨z, hz⟩ : ∃ z, rep 0 n = z := ⟨_, rfl⟩
  rw [hz] at KG' KS
  clear hz
  go_wp2_with (first | (go_at_call 12; refine KB'.out.mono ?_; rintro e w' ⟨rfl, rfl⟩) | (go_at_call 11; refine KL'.out.mono ?_; rintro e w' ⟨rfl, rfl⟩) | (go_at_call 14; refine KG'.out.mono ?_; rintro e w' ⟨rfl, rfl⟩))
  refine KS.out.mono ?_
  rintro e w2 ⟨rfl, g2⟩
  have G2 := Lib.hid (gb_trans G1.out g2)
  clear g2
  go_wp2_with fail
  refine (awake_calls _).mono ?_
  rintro e w3 ⟨rfl, g3⟩
  have G3 := Lib.hid (gb_trans G2.out g3)
  clear g3
  go_wp2
  go_ret
  exact ⟨rfl, G3.out⟩

set_option maxRecDepth 100000 in
/-- It isn't asked. -/
theorem makes_far (m n : Int) (h1 : 5000 < n) (h2 : n ≤ m) (W : World) :
    Calls Try.prog 4 #[.int .i64 m, .int .i64 n] W fun e w' => e = .returned (.bool true) ∧ W.grownBy w' none := by
  go_enter Try.func4, Try.ntmps4
  go_wp2_with fail
  refine (awake_calls _).mono ?_
  rintro e w3 ⟨rfl, g3⟩
  have G3 := Lib.hid g3
  clear g3
  go_wp2
  go_ret
  exact ⟨rfl, G3.out⟩

theorem makes_walk (m n : Int) (m1 : m ≤ 9223372036854775807) (W : World) :
    Calls Try.prog 4 #[.int .i64 m, .int .i64 n] W fun e w' => e = .returned (.bool true) ∧ W.grownBy w' none := by
  by_cases h0 : n < 0
  · exact makes_neg m n m1 h0 W
  by_cases h1 : pos m < n
  · exact makes_spent m n m1 (by omega) h1 W
  by_cases h2 : n ≤ 5000
  · obtain ⟨k, rfl⟩ : ∃ k : Nat, n = k := ⟨n.toNat, by omega⟩
    exact makes_yes m k m1 (by omega) (by omega) W
  · have h3 : n ≤ m := by unfold pos at h1; split at h1 <;> omega
    exact makes_far m n (by omega) h3 W

end Go.Proofs.Ytodlibmdchiecaa.Bu
