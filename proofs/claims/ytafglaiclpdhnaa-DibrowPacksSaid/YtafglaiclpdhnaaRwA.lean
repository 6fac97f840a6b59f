/- Layer 21: the law of packing at a depth that is one, walked (written by wip/gen/rwa.py). -/
import Derived.Test.YtafglaiclpdhnaaRw9
namespace Go.Proofs.Ytafglaiclpdhnaa.Rw
open Go.ChangeShapes Go.WideShapes Go.ChangeAt Go.RowKit
open Go.Proofs.Ytafglaiclpdhnaa.Le Go.Proofs.Ytafglaiclpdhnaa.Sc
set_option linter.unusedVariables false

set_option maxRecDepth 100000 in
set_option maxHeartbeats 2000000 in
theorem law_good24 (a : Option Addr) (b off n cap d t : Nat) (v : Nat → Int) (W : World) (hd : okD d) (hn : n ≤ 100) (ha : 0 < n → a = some ⟨b, off, none⟩) (hc : ∀ j, j < n → W.cell? ⟨b, off + j, none⟩ = some (.int .i64 (v j))) (ht : t = n) (hok : ∀ j, j < t → 0 ≤ v j ∧ v j < 2 ^ d) (h24 : d = 24) :
    Calls Try.prog 3 #[.slice a n cap, .int .i64 d] W fun e w' => e = .returned (.bool true) ∧ W.grownBy w' none := by
  have d0 : decide ((100 : Int) < (n : Int)) = false := decide_eq_false (by omega)
  have d1 : ¬ (100 : Int) < (n : Int) := by omega
  have hd32 : 1 ≤ d ∧ d ≤ 32 := by rcases hd with h | h | h | h | h | h <;> omega
  have n0 : ((d : Int) != 24) = false := (by rw [h24]; rfl)
  obtain rfl := ht
  have K := pack_calls a b off t cap d t v W hd hn ha hc (Nat.le_refl _) hok (.inl rfl)
  rw [if_pos rfl] at K
  have KD := fun w hc' => dpack_calls a b off t cap d v w hd hn ha hc' hok
  obtain ⟨T, hT⟩ : ∃ T, toT (rowL d t v (flN t d) (t * d)) = T := ⟨_, rfl⟩
  rw [hT] at K
  simp only [hT] at KD
  have KD := Lib.hid KD
  have e1 : (T.toList == T.toList) = true := beq_self_eq_true _
  have K := Lib.hid K
  have KR := rdepth_calls (d : Int)
  rw [show dpI (d : Int) = true from decide_eq_true (by rcases hd with h | h | h | h | h | h <;> omega)] at KR
  have KR := Lib.hid KR
  have KW := Lib.hid (fun w => power_calls d w hd32.2)
  have HC := Lib.hid hc
  have HA := Lib.hid ha
  have HOK := Lib.hid hok
  have hpw := pw_le (n := d) hd32.2
  obtain ⟨p, hp⟩ : ∃ p, pw d = p := ⟨_, rfl⟩
  have hp2 : (2 : Int) ^ d = p := by rw [← pw_two, hp]
  simp only [hp] at KW
  have HP2 := Lib.hid hp2
  clear hc ha hok hd hd32 h24 hp hp2 hpw hT
  go_enter Try.func3, Try.ntmps3
  go_wp2_with fail
  refine K.out.mono ?_
  rintro e w1 ⟨rfl, g1⟩
  have HG0 := Lib.hid g1
  clear g1
  go_wp2_with fail
  go_loopg [37] t (fun q iv wr => ∃ i : Nat, i ≤ t ∧ q = t - i ∧ iv = .int .i64 (i : Int) ∧ W.grownBy wr none)
  case atStart => exact ⟨0, Nat.zero_le _, rfl, rfl, HG0.out⟩
  case round =>
    obtain ⟨i, hi, rfl, rfl, g⟩ := hrel
    have HG := Lib.hid g
    clear g HG0
    by_cases hlt : i < t
    · obtain rfl := HA.out (by omega)
      have hcell := HG.out.cell (HC.out i (by omega)) (by simp)
      have hx := HOK.out i hlt
      rw [HP2.out] at hx
      obtain ⟨x, hxx⟩ : ∃ x, v i = x := ⟨_, rfl⟩
      rw [hxx] at hcell hx
      have c0 : decide (x < 0) = false := decide_eq_false (by omega)
      have c1 : decide (p ≤ x) = false := decide_eq_false (by omega)
      have c2 : ¬ x < 0 := by omega
      have c3 : ¬ p ≤ x := by omega
      have i0 : (0 : Int) ≤ (i : Int) := by omega
      have i1 : (i : Int) < (t : Int) := by have := hn; omega
      clear hxx hx
      go_wp2_with fail
      refine (KW.out _).mono ?_
      rintro e w' ⟨rfl, rfl⟩
      go_wp2_with fail
      go_roundg (t - (i + 1))
      case measure => omega
      case rel => exact ⟨i + 1, by omega, rfl, by go_num, HG.out⟩
    · obtain rfl : i = t := by omega
      go_wp2_with fail
      refine (KD.out _ (fun j hj => HG.out.cell (HC.out j hj) (by simp))).mono ?_
      rintro e w2 ⟨rfl, g2⟩
      have HG2 := Lib.hid (gb_trans HG.out g2)
      clear g2
      go_wp2_with fail
      refine (awake_calls _).mono ?_
      rintro e w9 ⟨rfl, g9⟩
      have HG3 := Lib.hid (gb_trans HG2.out g9)
      clear g9
      go_wp2
      go_ret
      exact ⟨rfl, HG3.out⟩

set_option maxRecDepth 100000 in
set_option maxHeartbeats 2000000 in
theorem law_good (a : Option Addr) (b off n cap d t : Nat) (v : Nat → Int) (W : World) (hd : okD d) (hn : n ≤ 100) (ha : 0 < n → a = some ⟨b, off, none⟩) (hc : ∀ j, j < n → W.cell? ⟨b, off + j, none⟩ = some (.int .i64 (v j))) (ht : t = n) (hok : ∀ j, j < t → 0 ≤ v j ∧ v j < 2 ^ d) (h24 : d ≠ 24) :
    Calls Try.prog 3 #[.slice a n cap, .int .i64 d] W fun e w' => e = .returned (.bool true) ∧ W.grownBy w' none := by
  have d0 : decide ((100 : Int) < (n : Int)) = false := decide_eq_false (by omega)
  have d1 : ¬ (100 : Int) < (n : Int) := by omega
  have hd32 : 1 ≤ d ∧ d ≤ 32 := by rcases hd with h | h | h | h | h | h <;> omega
  have n0 : ((d : Int) != 24) = true := (by rw [bne_iff_ne]; omega)
  obtain rfl := ht
  have K := pack_calls a b off t cap d t v W hd hn ha hc (Nat.le_refl _) hok (.inl rfl)
  rw [if_pos rfl] at K
  have KD := fun w hc' => dpack_calls a b off t cap d v w hd hn ha hc' hok
  obtain ⟨T, hT⟩ : ∃ T, toT (rowL d t v (flN t d) (t * d)) = T := ⟨_, rfl⟩
  rw [hT] at K
  simp only [hT] at KD
  have KD := Lib.hid KD
  have e1 : (T.toList == T.toList) = true := beq_self_eq_true _
  have K := Lib.hid K
  have KR := rdepth_calls (d : Int)
  rw [show dpI (d : Int) = true from decide_eq_true (by rcases hd with h | h | h | h | h | h <;> omega)] at KR
  have KR := Lib.hid KR
  have KW := Lib.hid (fun w => power_calls d w hd32.2)
  have HC := Lib.hid hc
  have HA := Lib.hid ha
  have HOK := Lib.hid hok
  have hpw := pw_le (n := d) hd32.2
  obtain ⟨p, hp⟩ : ∃ p, pw d = p := ⟨_, rfl⟩
  have hp2 : (2 : Int) ^ d = p := by rw [← pw_two, hp]
  simp only [hp] at KW
  have HP2 := Lib.hid hp2
  clear hc ha hok hd hd32 h24 hp hp2 hpw hT
  go_enter Try.func3, Try.ntmps3
  go_wp2_with fail
  refine K.out.mono ?_
  rintro e w1 ⟨rfl, g1⟩
  have HG0 := Lib.hid g1
  clear g1
  go_wp2_with fail
  refine (KR.out _).mono ?_
  rintro e w' ⟨rfl, rfl⟩
  go_wp2_with fail
  go_loopg [37] t (fun q iv wr => ∃ i : Nat, i ≤ t ∧ q = t - i ∧ iv = .int .i64 (i : Int) ∧ W.grownBy wr none)
  case atStart => exact ⟨0, Nat.zero_le _, rfl, rfl, HG0.out⟩
  case round =>
    obtain ⟨i, hi, rfl, rfl, g⟩ := hrel
    have HG := Lib.hid g
    clear g HG0
    by_cases hlt : i < t
    · obtain rfl := HA.out (by omega)
      have hcell := HG.out.cell (HC.out i (by omega)) (by simp)
      have hx := HOK.out i hlt
      rw [HP2.out] at hx
      obtain ⟨x, hxx⟩ : ∃ x, v i = x := ⟨_, rfl⟩
      rw [hxx] at hcell hx
      have c0 : decide (x < 0) = false := decide_eq_false (by omega)
      have c1 : decide (p ≤ x) = false := decide_eq_false (by omega)
      have c2 : ¬ x < 0 := by omega
      have c3 : ¬ p ≤ x := by omega
      have i0 : (0 : Int) ≤ (i : Int) := by omega
      have i1 : (i : Int) < (t : Int) := by have := hn; omega
      clear hxx hx
      go_wp2_with fail
      refine (KW.out _).mono ?_
      rintro e w' ⟨rfl, rfl⟩
      go_wp2_with fail
      go_roundg (t - (i + 1))
      case measure => omega
      case rel => exact ⟨i + 1, by omega, rfl, by go_num, HG.out⟩
    · obtain rfl : i = t := by omega
      go_wp2_with fail
      refine (KD.out _ (fun j hj => HG.out.cell (HC.out j hj) (by simp))).mono ?_
      rintro e w2 ⟨rfl, g2⟩
      have HG2 := Lib.hid (gb_trans HG.out g2)
      clear g2
      go_wp2_with fail
      refine (awake_calls _).mono ?_
      rintro e w9 ⟨rfl, g9⟩
      have HG3 := Lib.hid (gb_trans HG2.out g9)
      clear g9
      go_wp2
      go_ret
      exact ⟨rfl, HG3.out⟩

set_option maxRecDepth 100000 in
set_option maxHeartbeats 2000000 in
theorem law_bad24 (a : Option Addr) (b off n cap d t : Nat) (v : Nat → Int) (W : World) (hd : okD d) (hn : n ≤ 100) (ha : 0 < n → a = some ⟨b, off, none⟩) (hc : ∀ j, j < n → W.cell? ⟨b, off + j, none⟩ = some (.int .i64 (v j))) (ht : t < n) (hok : ∀ j, j < t → 0 ≤ v j ∧ v j < 2 ^ d) (hbad : ¬ (0 ≤ v t ∧ v t < 2 ^ d)) (h24 : d = 24) :
    Calls Try.prog 3 #[.slice a n cap, .int .i64 d] W fun e w' => e = .returned (.bool true) ∧ W.grownBy w' none := by
  have d0 : decide ((100 : Int) < (n : Int)) = false := decide_eq_false (by omega)
  have d1 : ¬ (100 : Int) < (n : Int) := by omega
  have hd32 : 1 ≤ d ∧ d ≤ 32 := by rcases hd with h | h | h | h | h | h <;> omega
  have n0 : ((d : Int) != 24) = false := (by rw [h24]; rfl)
  have K := pack_calls a b off n cap d t v W hd hn ha hc (by omega) hok (.inr ⟨ht, hbad⟩)
  rw [if_neg (by omega)] at K
  have HBAD := Lib.hid hbad
  have K := Lib.hid K
  have KR := rdepth_calls (d : Int)
  rw [show dpI (d : Int) = true from decide_eq_true (by rcases hd with h | h | h | h | h | h <;> omega)] at KR
  have KR := Lib.hid KR
  have KW := Lib.hid (fun w => power_calls d w hd32.2)
  have HC := Lib.hid hc
  have HA := Lib.hid ha
  have HOK := Lib.hid hok
  have HTN := Lib.hid ht
  have hpw := pw_le (n := d) hd32.2
  obtain ⟨p, hp⟩ : ∃ p, pw d = p := ⟨_, rfl⟩
  have hp2 : (2 : Int) ^ d = p := by rw [← pw_two, hp]
  simp only [hp] at KW
  have HP2 := Lib.hid hp2
  clear hc ha hok hd hd32 h24 hp hp2 hpw ht hbad
  go_enter Try.func3, Try.ntmps3
  go_wp2_with fail
  refine K.out.mono ?_
  rintro e w1 ⟨rfl, g1⟩
  have HG0 := Lib.hid g1
  clear g1
  go_wp2_with fail
  go_loopg [37] n (fun q iv wr => ∃ i : Nat, i ≤ t ∧ q = n - i ∧ iv = .int .i64 (i : Int) ∧ W.grownBy wr none)
  case atStart => exact ⟨0, Nat.zero_le _, rfl, rfl, HG0.out⟩
  case round =>
    obtain ⟨i, hi, rfl, rfl, g⟩ := hrel
    have HG := Lib.hid g
    clear g HG0
    by_cases hlt : i < t
    · obtain rfl := HA.out (by have := HTN.out; omega)
      have hcell := HG.out.cell (HC.out i (by have := HTN.out; omega)) (by simp)
      have hx := HOK.out i hlt
      rw [HP2.out] at hx
      obtain ⟨x, hxx⟩ : ∃ x, v i = x := ⟨_, rfl⟩
      rw [hxx] at hcell hx
      have c0 : decide (x < 0) = false := decide_eq_false (by omega)
      have c1 : decide (p ≤ x) = false := decide_eq_false (by omega)
      have c2 : ¬ x < 0 := by omega
      have c3 : ¬ p ≤ x := by omega
      have i0 : (0 : Int) ≤ (i : Int) := by omega
      have i1 : (i : Int) < (n : Int) := by have := HTN.out; omega
      clear hxx hx
      go_wp2_with fail
      refine (KW.out _).mono ?_
      rintro e w' ⟨rfl, rfl⟩
      go_wp2_with fail
      go_roundg (n - (i + 1))
      case measure => omega
      case rel => exact ⟨i + 1, by omega, rfl, by go_num, HG.out⟩
    · obtain rfl : i = t := by omega
      have htn := HTN.out
      obtain rfl := HA.out (by omega)
      have hcell := HG.out.cell (HC.out i htn) (by simp)
      have hx := HBAD.out
      rw [HP2.out] at hx
      obtain ⟨x, hxx⟩ : ∃ x, v i = x := ⟨_, rfl⟩
      rw [hxx] at hcell hx
      have i0 : (0 : Int) ≤ (i : Int) := by omega
      have i1 : (i : Int) < (n : Int) := by omega
      by_cases hneg : x < 0
      · have c0 : decide (x < 0) = true := decide_eq_true hneg
        clear hx hxx
        go_wp2_with fail
        refine (awake_calls _).mono ?_
        rintro e w9 ⟨rfl, g9⟩
        have HG3 := Lib.hid (gb_trans HG.out g9)
        clear g9
        go_wp2
        go_ret
        exact ⟨rfl, HG3.out⟩
      · have c0 : decide (x < 0) = false := decide_eq_false hneg
        have c1 : decide (p ≤ x) = true := decide_eq_true (by omega)
        have c3 : p ≤ x := by omega
        clear hx hxx
        go_wp2_with fail
        refine (KW.out _).mono ?_
        rintro e w' ⟨rfl, rfl⟩
        go_wp2_with fail
        refine (awake_calls _).mono ?_
        rintro e w9 ⟨rfl, g9⟩
        have HG3 := Lib.hid (gb_trans HG.out g9)
        clear g9
        go_wp2
        go_ret
        exact ⟨rfl, HG3.out⟩

set_option maxRecDepth 100000 in
set_option maxHeartbeats 2000000 in
theorem law_bad (a : Option Addr) (b off n cap d t : Nat) (v : Nat → Int) (W : World) (hd : okD d) (hn : n ≤ 100) (ha : 0 < n → a = some ⟨b, off, none⟩) (hc : ∀ j, j < n → W.cell? ⟨b, off + j, none⟩ = some (.int .i64 (v j))) (ht : t < n) (hok : ∀ j, j < t → 0 ≤ v j ∧ v j < 2 ^ d) (hbad : ¬ (0 ≤ v t ∧ v t < 2 ^ d)) (h24 : d ≠ 24) :
    Calls Try.prog 3 #[.slice a n cap, .int .i64 d] W fun e w' => e = .returned (.bool true) ∧ W.grownBy w' none := by
  have d0 : decide ((100 : Int) < (n : Int)) = false := decide_eq_false (by omega)
  have d1 : ¬ (100 : Int) < (n : Int) := by omega
  have hd32 : 1 ≤ d ∧ d ≤ 32 := by rcases hd with h | h | h | h | h | h <;> omega
  have n0 : ((d : Int) != 24) = true := (by rw [bne_iff_ne]; omega)
  have K := pack_calls a b off n cap d t v W hd hn ha hc (by omega) hok (.inr ⟨ht, hbad⟩)
  rw [if_neg (by omega)] at K
  have HBAD := Lib.hid hbad
  have K := Lib.hid K
  have KR := rdepth_calls (d : Int)
  rw [show dpI (d : Int) = true from decide_eq_true (by rcases hd with h | h | h | h | h | h <;> omega)] at KR
  have KR := Lib.hid KR
  have KW := Lib.hid (fun w => power_calls d w hd32.2)
  have HC := Lib.hid hc
  have HA := Lib.hid ha
  have HOK := Lib.hid hok
  have HTN := Lib.hid ht
  have hpw := pw_le (n := d) hd32.2
  obtain ⟨p, hp⟩ : ∃ p, pw d = p := ⟨_, rfl⟩
  have hp2 : (2 : Int) ^ d = p := by rw [← pw_two, hp]
  simp only [hp] at KW
  have HP2 := Lib.hid hp2
  clear hc ha hok hd hd32 h24 hp hp2 hpw ht hbad
  go_enter Try.func3, Try.ntmps3
  go_wp2_with fail
  refine K.out.mono ?_
  rintro e w1 ⟨rfl, g1⟩
  have HG0 := Lib.hid g1
  clear g1
  go_wp2_with fail
  refine (KR.out _).mono ?_
  rintro e w' ⟨rfl, rfl⟩
  go_wp2_with fail
  go_loopg [37] n (fun q iv wr => ∃ i : Nat, i ≤ t ∧ q = n - i ∧ iv = .int .i64 (i : Int) ∧ W.grownBy wr none)
  case atStart => exact ⟨0, Nat.zero_le _, rfl, rfl, HG0.out⟩
  case round =>
    obtain ⟨i, hi, rfl, rfl, g⟩ := hrel
    have HG := Lib.hid g
    clear g HG0
    by_cases hlt : i < t
    · obtain rfl := HA.out (by have := HTN.out; omega)
      have hcell := HG.out.cell (HC.out i (by have := HTN.out; omega)) (by simp)
      have hx := HOK.out i hlt
      rw [HP2.out] at hx
      obtain ⟨x, hxx⟩ : ∃ x, v i = x := ⟨_, rfl⟩
      rw [hxx] at hcell hx
      have c0 : decide (x < 0) = false := decide_eq_false (by omega)
      have c1 : decide (p ≤ x) = false := decide_eq_false (by omega)
      have c2 : ¬ x < 0 := by omega
      have c3 : ¬ p ≤ x := by omega
      have i0 : (0 : Int) ≤ (i : Int) := by omega
      have i1 : (i : Int) < (n : Int) := by have := HTN.out; omega
      clear hxx hx
      go_wp2_with fail
      refine (KW.out _).mono ?_
      rintro e w' ⟨rfl, rfl⟩
      go_wp2_with fail
      go_roundg (n - (i + 1))
      case measure => omega
      case rel => exact ⟨i + 1, by omega, rfl, by go_num, HG.out⟩
    · obtain rfl : i = t := by omega
      have htn := HTN.out
      obtain rfl := HA.out (by omega)
      have hcell := HG.out.cell (HC.out i htn) (by simp)
      have hx := HBAD.out
      rw [HP2.out] at hx
      obtain ⟨x, hxx⟩ : ∃ x, v i = x := ⟨_, rfl⟩
      rw [hxx] at hcell hx
      have i0 : (0 : Int) ≤ (i : Int) := by omega
      have i1 : (i : Int) < (n : Int) := by omega
      by_cases hneg : x < 0
      · have c0 : decide (x < 0) = true := decide_eq_true hneg
        clear hx hxx
        go_wp2_with fail
        refine (awake_calls _).mono ?_
        rintro e w9 ⟨rfl, g9⟩
        have HG3 := Lib.hid (gb_trans HG.out g9)
        clear g9
        go_wp2
        go_ret
        exact ⟨rfl, HG3.out⟩
      · have c0 : decide (x < 0) = false := decide_eq_false hneg
        have c1 : decide (p ≤ x) = true := decide_eq_true (by omega)
        have c3 : p ≤ x := by omega
        clear hx hxx
        go_wp2_with fail
        refine (KW.out _).mono ?_
        rintro e w' ⟨rfl, rfl⟩
        go_wp2_with fail
        refine (awake_calls _).mono ?_
        rintro e w9 ⟨rfl, g9⟩
        have HG3 := Lib.hid (gb_trans HG.out g9)
        clear g9
        go_wp2
        go_ret
        exact ⟨rfl, HG3.out⟩

theorem law_any (a : Option Addr) (b off n cap : Nat) (dI : Int) (v : Nat → Int) (W : World) (ha : 0 < n → a = some ⟨b, off, none⟩) (hm : n ≤ 9223372036854775807) (hc : ∀ j, j < n → W.cell? ⟨b, off + j, none⟩ = some (.int .i64 (v j))) :
    Calls Try.prog 3 #[.slice a n cap, .int .i64 dI] W fun e w' => e = .returned (.bool true) ∧ W.grownBy w' none := by
  by_cases hn : 100 < n
  · exact law_far a n cap dI W hn hm
  · cases hd : dpI dI with
    | false => exact law_arg a n cap dI W (by omega) hd
    | true =>
      have h := of_decide_eq_true hd
      obtain ⟨d, rfl, hok⟩ : ∃ d : Nat, dI = (d : Int) ∧ okD d := by
        rcases h with rfl | rfl | rfl | rfl | rfl | rfl
        · exact ⟨1, rfl, .inl rfl⟩
        · exact ⟨4, rfl, .inr (.inl rfl)⟩
        · exact ⟨8, rfl, .inr (.inr (.inl rfl))⟩
        · exact ⟨16, rfl, .inr (.inr (.inr (.inl rfl)))⟩
        · exact ⟨24, rfl, .inr (.inr (.inr (.inr (.inl rfl))))⟩
        · exact ⟨32, rfl, .inr (.inr (.inr (.inr (.inr rfl))))⟩
      obtain ⟨t, h1, h2, h3⟩ := first_bad (fun j => 0 ≤ v j ∧ v j < 2 ^ d) n
      by_cases h24 : d = 24
      · rcases h3 with h3 | ⟨h3, h4⟩
        · exact law_good24 a b off n cap d t v W hok (by omega) ha hc h3 h2 h24
        · exact law_bad24 a b off n cap d t v W hok (by omega) ha hc h3 h2 h4 h24
      · rcases h3 with h3 | ⟨h3, h4⟩
        · exact law_good a b off n cap d t v W hok (by omega) ha hc h3 h2 h24
        · exact law_bad a b off n cap d t v W hok (by omega) ha hc h3 h2 h4 h24

end Go.Proofs.Ytafglaiclpdhnaa.Rw
