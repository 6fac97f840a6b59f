/- The law of layer 18, walked for every list of texts. -/
import Derived.Test.YtfjnhpdlellooaaPk7
namespace Go.Proofs.Ytfjnhpdlellooaa.Pk
open Go.ChangeShapes Go.WideShapes Go.ChangeAt Go.RowKit
set_option linter.unusedVariables false

set_option maxRecDepth 100000 in
theorem pack_none (a : Option Addr) (c : Nat) (W : World) : Calls Try.prog 5 #[.slice a 0 c] W fun e w' => e = .returned (.string ⟨#[]⟩) ∧ W.grownBy w' none := by
  have hcv := conv_none W none 0
  go_enter Try.func5, Try.ntmps5
  go_wp2
  go_loopg [0, 3] 0 (fun q lv tv wr => q = 0 ∧ lv = .slice a 0 c ∧ tv = .slice none 0 0 ∧ W = wr)
  case atStart => exact ⟨rfl, rfl, rfl, rfl⟩
  case round =>
    obtain ⟨rfl, rfl, rfl, rfl⟩ := hrel
    go_wp2
    go_ret
    exact ⟨rfl, gbr _ _⟩

set_option maxRecDepth 100000 in
theorem rpack_none (a : Option Addr) (c : Nat) (W : World) : Calls Try.prog 6 #[.slice a 0 c] W fun e w' => e = .returned (.string ⟨#[]⟩) ∧ W.grownBy w' none := by
  go_enter Try.func6, Try.ntmps6
  go_wp2
  go_loopg [3, 4] 0 (fun q tv iv wr => q = 0 ∧ tv = .string ⟨#[]⟩ ∧ iv = .int .i64 0 ∧ W = wr)
  case atStart => exact ⟨rfl, rfl, rfl, rfl⟩
  case round =>
    obtain ⟨rfl, rfl, rfl, rfl⟩ := hrel
    go_wp2
    go_ret
    exact ⟨rfl, gbr _ _⟩

set_option maxRecDepth 100000 in
/-- It isn't asked. -/
theorem law_far (a : Option Addr) (n c : Nat) (W : World) (h : 300 < n) : Calls Try.prog 3 #[.slice a n c] W fun e w' => e = .returned (.bool true) ∧ W.grownBy w' none := by
  have d1 : (300 : Int) < (n : Int) := by omega
  clear h
  go_enter Try.func3, Try.ntmps3
  go_wp2_with fail
  refine (awake_calls _).mono ?_
  rintro e w9 ⟨rfl, g9⟩
  have G9 := Lib.hid g9
  clear g9
  go_wp2
  go_ret
  exact ⟨rfl, G9.out⟩

set_option maxRecDepth 100000 in
/-- No pixels. -/
theorem law_none (a : Option Addr) (c : Nat) (W : World) : Calls Try.prog 3 #[.slice a 0 c] W fun e w' => e = .returned (.bool true) ∧ W.grownBy w' none := by
  go_enter Try.func3, Try.ntmps3
  go_wp2
  go_loopg [3, 16] 0 (fun q sv iv wr => q = 0 ∧ sv = .bool true ∧ iv = .int .i64 0 ∧ W = wr)
  case atStart => exact ⟨rfl, rfl, rfl, rfl⟩
  case round =>
    obtain ⟨rfl, rfl, rfl, rfl⟩ := hrel
    go_wp2_with fail
    refine (pack_none _ _ _).mono ?_
    rintro e w1 ⟨rfl, g1⟩
    have G1 := Lib.hid g1
    clear g1
    go_wp2_with fail
    refine (rpack_none _ _ _).mono ?_
    rintro e w2 ⟨rfl, g2⟩
    have G2 := Lib.hid (gbt G1.out g2)
    clear g2
    go_wp2_with fail
    refine (awake_calls _).mono ?_
    rintro e w9 ⟨rfl, g9⟩
    have G9 := Lib.hid (gbt G2.out g9)
    clear g9
    go_wp2
    go_ret
    exact ⟨rfl, G9.out⟩

theorem own_str {w : World} {v : Value} {B n : Nat} {L : Nat → ByteArray} (O : w.ownsRow B 9 1 v n (strs L n)) (h : 0 < n) : ∃ g c, v = .slice (some ⟨g, 0, none⟩) n c ∧ StrAt g 0 0 n L w := by
  rcases O.2 with ⟨rfl, h0⟩ | ⟨a, c, cur, rfl, _, ha, _, _, _, ht⟩
  · omega
  · refine ⟨a, c, rfl, fun k hk => ?_⟩
    rw [Nat.zero_add, cell_in ha k]
    have hs : ∀ m, k < m → (strs L m)[k]? = some (.string (L k)) := by
      intro m
      induction m with
      | zero => intro h; omega
      | succ m ih =>
        intro hkm
        have hl : ∀ m, (strs L m).length = m := by
          intro m
          induction m with
          | zero => rfl
          | succ m ih => show (strs L m ++ [_]).length = _; rw [List.length_append, ih]; rfl
        show (strs L m ++ [_])[k]? = _
        by_cases e : k < m
        · rw [List.getElem?_append_left (by rw [hl]; exact e)]
          exact ih e
        · obtain rfl : k = m := by omega
          rw [List.getElem?_append_right (by rw [hl]; exact Nat.le_refl _), hl, Nat.sub_self]
          rfl
    have := hs n hk
    rw [← ht, List.getElem?_take, if_pos (by omega)] at this
    rw [← this]
    exact (Array.getElem?_toList).symm

set_option maxRecDepth 100000 in
set_option maxHeartbeats 2000000 in
theorem law_some (b off N cap : Nat) (L : Nat → ByteArray) (W : World) (h1 : 0 < N) (hN : N ≤ 300) (hc : N ≤ cap) (hcm : cap ≤ 9223372036854775807) (hm : ∀ k, k < N → (L k).size ≤ 9223372036854775807) (hS : StrAt b off 0 N L W) :
    Calls Try.prog 3 #[.slice (some ⟨b, off, none⟩) N cap] W fun e w' => e = .returned (.bool true) ∧ W.grownBy w' none := by
  have HS := Lib.hid hS
  have HM := Lib.hid hm
  have c0 := hS 0 h1
  rw [Nat.add_zero, Nat.zero_add] at c0
  obtain ⟨z0, hz0⟩ : ∃ z, L 0 = z := ⟨_, rfl⟩
  rw [hz0] at c0
  have hz0m : z0.size ≤ 9223372036854775807 := by rw [← hz0]; exact hm 0 h1
  have HZ0 := Lib.hid hz0
  have d0 : ¬ (300 : Int) < (N : Int) := by omega
  have d00 : (0 : Int) < (N : Int) := by omega
  have d01 : ((N : Int) == 0) = false := by rw [beq_eq_false_iff_ne]; omega
  clear hS hm hz0
  go_enter Try.func3, Try.ntmps3
  go_wp2
  go_loopg [3, 16] N (fun q sv iv wr => ∃ (i : Nat) (sm : Bool), i ≤ N ∧ q = N - i ∧ iv = .int .i64 i ∧ sv = .bool sm ∧ (∀ k, k < i → (L k).size ≤ 20) ∧ (sm = true → ∀ k, k < i → (L k).size = z0.size) ∧ W = wr)
  case atStart => exact ⟨0, true, Nat.zero_le _, rfl, rfl, rfl, fun k hk => absurd hk (by omega), fun _ k hk => absurd hk (by omega), rfl⟩
  case round =>
    obtain ⟨i, sm, hi, rfl, rfl, rfl, hsz, hsm, rfl⟩ := hrel
    have HSZ := Lib.hid hsz
    have HSM := Lib.hid hsm
    clear hsz hsm
    by_cases hlt : i < N
    · have d1 : (i : Int) < (N : Int) := by omega
      have ci := HS.out i hlt
      rw [Nat.zero_add] at ci
      obtain ⟨z, hz⟩ : ∃ z, L i = z := ⟨_, rfl⟩
      rw [hz] at ci
      have hzm : z.size ≤ 9223372036854775807 := by rw [← hz]; exact HM.out i hlt
      have HZ := Lib.hid hz
      clear hz
      by_cases h20 : z.size ≤ 20
      · have d2 : ¬ (20 : Int) < (z.size : Int) := by omega
        cases sm with
        | false =>
          go_wp2
          go_roundg (N - (i + 1))
          case measure => omega
          case rel => exact ⟨i + 1, false, by omega, rfl, by go_num, rfl, fun k hk => (by
            by_cases e : k < i
            · exact HSZ.out k e
            · obtain rfl : k = i := by omega
              rw [HZ.out]; exact h20), fun h => absurd h (by decide), rfl⟩
        | true =>
          by_cases he : z.size = z0.size
          · have d3 : ((z.size : Int) == (z0.size : Int)) = true := by rw [beq_iff_eq]; omega
            have HE := Lib.hid he
            clear he
            go_wp2
            go_roundg (N - (i + 1))
            case measure => omega
            case rel => exact ⟨i + 1, true, by omega, rfl, by go_num, rfl, fun k hk => (by
              by_cases e : k < i
              · exact HSZ.out k e
              · obtain rfl : k = i := by omega
                rw [HZ.out]; exact h20), fun h k hk => (by
              by_cases e : k < i
              · exact (by first | exact HSM.out trivial k e | exact HSM.out rfl k e)
              · obtain rfl : k = i := by omega
                rw [HZ.out]; exact HE.out), rfl⟩
          · have d3 : ((z.size : Int) == (z0.size : Int)) = false := by rw [beq_eq_false_iff_ne]; omega
            have HE := Lib.hid he
            clear he
            go_wp2
            go_roundg (N - (i + 1))
            case measure => omega
            case rel => exact ⟨i + 1, false, by omega, rfl, by go_num, rfl, fun k hk => (by
              by_cases e : k < i
              · exact HSZ.out k e
              · obtain rfl : k = i := by omega
                rw [HZ.out]; exact h20), fun h => absurd h (by decide), rfl⟩
      · have d2 : (20 : Int) < (z.size : Int) := by omega
        go_wp2_with fail
        refine (awake_calls _).mono ?_
        rintro e w9 ⟨rfl, g9⟩
        have G9 := Lib.hid g9
        clear g9
        go_wp2
        go_ret
        exact ⟨rfl, G9.out⟩
    · obtain rfl : i = N := by omega
      have d1 : ¬ (i : Int) < (i : Int) := by omega
      go_wp2_with fail
      refine (pack_calls b off i cap L _ hN hc hcm (fun k hk => HSZ.out k hk) HS.out).mono ?_
      rintro e w1 ⟨k1, t1, hk1, ht1, rfl, g1⟩
      have HK1 := Lib.hid hk1
      have HG1 := Lib.hid g1
      have HT1 := Lib.hid ht1
      obtain ⟨T, hT⟩ : ∃ z, (⟨t1.toArray⟩ : ByteArray) = z := ⟨_, rfl⟩
      rw [hT]
      have HTT := Lib.hid hT
      clear hk1 g1 ht1 hT
      go_wp2_with fail
      refine (rpack_calls b off i cap L _ hN (fun k hk => HSZ.out k hk) (HS.out.grown HG1.out)).mono ?_
      rintro e w2 ⟨k2, t2, hk2, ht2, rfl, g2⟩
      have HG2 := Lib.hid (gbt HG1.out g2)
      have ht : t2 = t1 := by
        have := pk_one (L := L) (N := i) (i := k2) (j := k1) (by rw [hk2]; exact Nat.le_refl _) (by rw [HK1.out]; exact Nat.le_refl _)
        rw [hk2, HK1.out] at this
        exact this
      rw [ht, HTT.out]
      have e1 : (T.toList != T.toList) = false := by simp
      have c0 := HG2.out.cell c0 (by simp)
      clear g2 hk2 ht2 ht
      cases sm with
      | false =>
        go_wp2_with fail
        refine (awake_calls _).mono ?_
        rintro e w9 ⟨rfl, g9⟩
        have G9 := Lib.hid (gbt HG2.out g9)
        clear g9
        go_wp2
        go_ret
        exact ⟨rfl, G9.out⟩
      | true =>
        by_cases hs1 : z0.size < 1
        · have d4 : (z0.size : Int) < 1 := by omega
          go_wp2_with fail
          refine (awake_calls _).mono ?_
          rintro e w9 ⟨rfl, g9⟩
          have G9 := Lib.hid (gbt HG2.out g9)
          clear g9
          go_wp2
          go_ret
          exact ⟨rfl, G9.out⟩
        · have d4 : ¬ (z0.size : Int) < 1 := by omega
          by_cases hs4 : 4 < z0.size
          · have d5 : (4 : Int) < (z0.size : Int) := by omega
            go_wp2_with fail
            refine (awake_calls _).mono ?_
            rintro e w9 ⟨rfl, g9⟩
            have G9 := Lib.hid (gbt HG2.out g9)
            clear g9
            go_wp2
            go_ret
            exact ⟨rfl, G9.out⟩
          · have d5 : ¬ (4 : Int) < (z0.size : Int) := by omega
            obtain ⟨n0, hn0⟩ : ∃ n, z0.size = n := ⟨_, rfl⟩
            have hTs : T.size = t1.length := by rw [← HTT.out]; simp [ByteArray.size]
            have z1 : ¬ 9223372036854775807 < T.size + 1 := by have := HT1.out; omega
            obtain ⟨S, hS⟩ : ∃ z, T ++ ⟨#[120]⟩ = z := ⟨_, rfl⟩
            have hSl : S.data.toList = (pk L i k1).2 ++ [120] := by
              rw [← hS, ← HTT.out, HK1.out]
              simp
            have hSs : S.size ≤ 10000 := by
              rw [Lib.size_eq, hSl, List.length_append, HK1.out]
              have := HT1.out
              show t1.length + 1 ≤ _
              omega
            have KP := Lib.hid (fun u => packets_calls S n0 i k1 L [120] u hN (by omega) (fun k hk => by rw [← hn0]; exact (by first | exact HSM.out trivial k hk | exact HSM.out rfl k hk)) hSl (by rw [HK1.out]) hSs)
            rw [hn0] at d4 d5
            have hlen : (pk L i k1).2.length = T.size := by rw [HK1.out, hTs]
            rw [hlen] at KP
            have e2 : ((T.size : Int) == (T.size : Int)) = true := beq_self_eq_true _
            have e3 : ((n0 : Int) == (0 : Int)) = false := by rw [beq_eq_false_iff_ne]; omega
            clear hSl hSs hTs hlen
            go_wp2_with fail
            refine (KP.out _).mono ?_
            rintro e w3 ⟨v, rfl, own, g3⟩
            obtain ⟨g, gc, rfl, hst⟩ := own_str own h1
            have HG3 := Lib.hid (gbt HG2.out g3)
            have HST := Lib.hid hst
            clear own g3 hst
            go_wp2_with fail
            refine (same_yes g 0 gc b off cap i L _ hN HST.out (HS.out.grown HG3.out)).mono ?_
            rintro e w4 ⟨rfl, g4⟩
            have HG4 := Lib.hid (gbt HG3.out g4)
            clear g4
            go_wp2_with fail
            refine (awake_calls _).mono ?_
            rintro e w9 ⟨rfl, g9⟩
            have G9 := Lib.hid (gbt HG4.out g9)
            clear g9
            go_wp2
            go_ret
            exact ⟨rfl, G9.out⟩

end Go.Proofs.Ytfjnhpdlellooaa.Pk
