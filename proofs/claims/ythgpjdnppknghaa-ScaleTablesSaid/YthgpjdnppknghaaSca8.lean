/- The law ScaleTables, walked. -/
import Derived.Test.YthgpjdnppknghaaSca7
namespace Go.Proofs.Ythgpjdnppknghaa.Sc
open Go.ChangeShapes Go.WideShapes Go.ChangeAt Go.RowKit Go.Proofs.Ythgpjdnppknghaa.Le
set_option linter.unusedVariables false

theorem tables_bad (m : Int) (a0 : Option Addr) (len cap : Nat) (W : World) (h : m < 1 ∨ 65535 < m) :
    Calls Try.prog 10 #[.int .i64 m, .slice a0 len cap] W fun e w' => e = .returned (.bool true) ∧ W.grownBy w' none := by
  have K := Lib.hid (snew_bad m W h)
  have C8 := Lib.hid awake_calls
  by_cases h0 : m < 1
  · clear h
    go_enter Try.func10, Try.ntmps10
    go_wp2_with fail
    refine K.out.mono ?_
    rintro e w' ⟨rfl, rfl⟩
    go_wp2_with fail
    refine (C8.out _).mono ?_
    rintro e w' ⟨rfl, rfl⟩
    go_wp2
    go_ret
    exact ⟨rfl, gb_refl _ _⟩
  · have h1 : 65535 < m := by omega
    clear h
    go_enter Try.func10, Try.ntmps10
    go_wp2_with fail
    refine K.out.mono ?_
    rintro e w' ⟨rfl, rfl⟩
    go_wp2_with fail
    refine (C8.out _).mono ?_
    rintro e w' ⟨rfl, rfl⟩
    go_wp2
    go_ret
    exact ⟨rfl, gb_refl _ _⟩

set_option maxRecDepth 100000 in
theorem tables_long (m : Nat) (a0 : Option Addr) (len cap : Nat) (W : World) (m1 : 1 ≤ m) (m2 : m ≤ 65535) (hl : 30 < len) (hb : len ≤ 9223372036854775807) :
    Calls Try.prog 10 #[.int .i64 m, .slice a0 len cap] W fun e w' => e = .returned (.bool true) ∧ W.grownBy w' none := by
  have K := Lib.hid (snew_yes m W m1 m2)
  have C8 := Lib.hid awake_calls
  go_enter Try.func10, Try.ntmps10
  go_wp2_with fail
  refine K.out.mono ?_
  rintro e w1 ⟨b, rfl, S, G, hs⟩
  have HM := Lib.hid (most_calls b m w1 S)
  have HG := Lib.hid G
  clear S G
  go_wp2_with fail
  refine HM.out.mono ?_
  rintro e w' ⟨rfl, rfl⟩
  go_wp2_with fail
  refine HM.out.mono ?_
  rintro e w' ⟨rfl, rfl⟩
  go_wp2_with fail
  refine (C8.out _).mono ?_
  rintro e w' ⟨rfl, rfl⟩
  go_wp2
  go_ret
  exact ⟨rfl, HG.out⟩

set_option maxRecDepth 100000 in
set_option maxHeartbeats 2000000 in
theorem tables_walk (m : Nat) (a0 : Option Addr) (c off len cap : Nat) (zs : List Int) (W : World) (m1 : 1 ≤ m) (m2 : m ≤ 65535) (hl : len ≤ 30) (ha : 0 < len → a0 = some ⟨c, off, none⟩) (hc : ∀ j, j < len → W.cell? ⟨c, off + j, none⟩ = some (.int .i64 (zs.getD j 0))) :
    Calls Try.prog 10 #[.int .i64 m, .slice a0 len cap] W fun e w' => e = .returned (.bool true) ∧ W.grownBy w' none := by
  have K := Lib.hid (snew_yes m W m1 m2)
  have C8 := Lib.hid awake_calls
  have HC := Lib.hid hc
  have HA := Lib.hid ha
  clear hc ha
  go_enter Try.func10, Try.ntmps10
  go_wp2_with fail
  refine K.out.mono ?_
  rintro e w1 ⟨b, rfl, S, G, hs⟩
  have HM := Lib.hid (most_calls b m w1 S)
  have HG := Lib.hid G
  have HS := Lib.hid S
  clear S G
  go_wp2_with fail
  refine HM.out.mono ?_
  rintro e w' ⟨rfl, rfl⟩
  go_wp2_with fail
  go_loopg [65] len (fun q iv wr => ∃ i : Nat, i ≤ len ∧ q = len - i ∧ iv = .int .i64 i ∧ (Ss b m wr ∧ W.grownBy wr none))
  case atStart => exact ⟨0, Nat.zero_le _, rfl, rfl, HS.out, HG.out⟩
  case round =>
    obtain ⟨i, hi, rfl, rfl, I⟩ := hrel
    have HI := Lib.hid I
    clear I HM HG HS
    by_cases hlt : i < len
    · obtain rfl := HA.out (by omega)
      have hcell := HI.out.2.cell (HC.out i hlt) (by simp)
      obtain ⟨n, hn⟩ : ∃ n, zs.getD i 0 = n := ⟨_, rfl⟩
      rw [hn] at hcell
      clear hn
      by_cases hv : n < 0 ∨ (m : Int) < n
      · have KO := Lib.hid (of_no b m n wr HI.out.1 hv)
        have KM := may_calls n m wr
        rw [may_no (by omega)] at KM
        have KM' := Lib.hid KM
        clear KM hv
        go_wp2_with fail
        refine KO.out.mono ?_
        rintro e w' ⟨rfl, rfl⟩
        go_wp2_with fail
        refine KM'.out.mono ?_
        rintro e w' ⟨rfl, rfl⟩
        go_wp2
        go_roundg (len - (i + 1))
        case measure => omega
        case rel => exact ⟨i + 1, by omega, rfl, by go_num, HI.out⟩
      · obtain ⟨v, rfl⟩ : ∃ v : Nat, n = v := ⟨n.toNat, by omega⟩
        have KO := Lib.hid (of_yes b m v wr HI.out.1 m1 m2 (by omega))
        have KM := fun w => may_calls v m w
        simp only [may_yes (show (1 : Int) ≤ m by omega) (show (m : Int) ≤ 4294967295 by omega) (show (0 : Int) ≤ v by omega) (show (v : Int) ≤ m by omega)] at KM
        have KM' := Lib.hid KM
        have q0 := near_0 (v := (v : Int)) (show (1 : Int) ≤ m by omega) (by omega)
        have q1 := near_255 (v := (v : Int)) (show (1 : Int) ≤ m by omega) (by omega)
        have KR := Lib.hid (fun w => rmax_calls v m w (by omega) (by omega) (by omega) (by omega))
        obtain ⟨y, hy⟩ : ∃ y, near v m = y := ⟨_, rfl⟩
        simp only [hy] at KO KR q0 q1
        clear KM hv hy
        go_wp2_with fail
        refine KO.out.mono ?_
        rintro e w2 ⟨rfl, S2, G2⟩
        have HJ := Lib.hid (show Ss b m w2 ∧ W.grownBy w2 none from ⟨S2, gb_own HI.out.2 hs G2⟩)
        clear S2 G2 HI
        go_wp2_with fail
        refine (KM'.out _).mono ?_
        rintro e w' ⟨rfl, rfl⟩
        go_wp2_with fail
        refine (KR.out _).mono ?_
        rintro e w' ⟨rfl, rfl⟩
        go_wp2
        go_roundg (len - (i + 1))
        case measure => omega
        case rel => exact ⟨i + 1, by omega, rfl, by go_num, HJ.out⟩
    · obtain rfl : i = len := by omega
      go_wp2_with fail
      refine (C8.out _).mono ?_
      rintro e w' ⟨rfl, rfl⟩
      go_wp2
      go_ret
      exact ⟨rfl, HI.out.2⟩

theorem tables_any (m : Int) (a0 : Option Addr) (c off len cap : Nat) (zs : List Int) (W : World) (hb : len ≤ 9223372036854775807) (ha : 0 < len → a0 = some ⟨c, off, none⟩) (hc : ∀ j, j < len → W.cell? ⟨c, off + j, none⟩ = some (.int .i64 (zs.getD j 0))) :
    Calls Try.prog 10 #[.int .i64 m, .slice a0 len cap] W fun e w' => e = .returned (.bool true) ∧ W.grownBy w' none := by
  by_cases h : m < 1 ∨ 65535 < m
  · exact tables_bad m a0 len cap W h
  · obtain ⟨k, rfl⟩ : ∃ k : Nat, m = k := ⟨m.toNat, by omega⟩
    by_cases hl : 30 < len
    · exact tables_long k a0 len cap W (by omega) (by omega) hl hb
    · exact tables_walk k a0 c off len cap zs W (by omega) (by omega) (by omega) ha hc

end Go.Proofs.Ythgpjdnppknghaa.Sc
