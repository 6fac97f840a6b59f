/- Layer 6: the law BitsPlays, walked. -/
import Derived.Test.YthgpjdnppknghaaBitP
namespace Go.Proofs.Ythgpjdnppknghaa.Bi
open Go.ChangeShapes Go.WideShapes Go.ChangeAt Go.RowKit
open Go.Proofs.Ythgpjdnppknghaa.Le Go.Proofs.Ythgpjdnppknghaa.Sr
set_option linter.unusedVariables false

theorem row_cap {w : World} {base e n g k cap : Nat} {xs : List Value} (h : w.ownsRow base e 1 (.slice (some ⟨g, 0, none⟩) k cap) n xs) : n ≤ cap := by
  obtain ⟨h1, ⟨h2, h3⟩ | ⟨g', cap', cur, e1, hg, hb, h3, h4⟩⟩ := h
  · omega
  · cases e1; exact h3
theorem row_cell {w : World} {base g k cap : Nat} {low : Bool} {s : ByteArray} (h : w.ownsRow base 3 1 (.slice (some ⟨g, 0, none⟩) k cap) k (bl low s k)) (j : Nat) (hj : j < k) : w.cell? ⟨g, j, none⟩ = some (.int .i64 (bitAt low s j)) := by
  have h := h.cells (g := g) rfl j (.int .i64 (bitAt low s j)) (by simp [bl, hj])
  rw [add_plain] at h
  simpa using h

set_option maxRecDepth 100000 in
set_option maxHeartbeats 4000000 in
theorem plays_walk (s : ByteArray) (low : Bool) (a0 : Option Addr) (b off len cap : Nat) (zs : List Int) (W : World) (h1 : s.size ≤ 100) (ha : 0 < len → a0 = some ⟨b, off, none⟩) (hb : len ≤ 9223372036854775807) (hc : ∀ j, j < len → W.cell? ⟨b, off + j, none⟩ = some (.int .i64 (zs.getD j 0))) :
    Calls Try.prog 3 #[.string s, .bool low, .slice a0 len cap] W fun e w' => e = .returned (.bool true) ∧ W.grownBy w' none := by
  have HC := Lib.hid hc
  have HA := Lib.hid ha
  clear hc ha
  go_enter Try.func3, Try.ntmps3
  go_wp2_with fail
  refine (wnew_calls 1000 (by decide) _).mono ?_
  rintro e w0 ⟨l, rfl, L0, g0, hl⟩
  have H0 := Lib.hid L0
  have G0 := Lib.hid g0
  have l0 := L0.lt
  clear L0 g0
  go_wp2_with fail
  refine (snew_calls l s _ (by omega)).mono ?_
  rintro e w1 ⟨c, rfl, S1, g1, hc⟩
  have H1 := Lib.hid (H0.out.grown g1 (by simp))
  have G1 := Lib.hid (gb_trans G0.out g1)
  have P1 := Lib.hid (S1 l0)
  have c1 := P1.out.lt
  have z0 := G0.out.size
  have z1 := g1.size
  clear S1 g1 H0 G0
  go_wp2_with fail
  refine (bnew_calls c low _).mono ?_
  rintro e w2 ⟨r, rfl, B2, g2, hr⟩
  have G2 := Lib.hid (gb_trans G1.out g2)
  have R2 := Lib.hid (RS.start (m := 1000) (B2 (by omega)) (P1.out.grown g2 (by simp)) (H1.out.grown g2 (by simp)) (by omega) (by omega) (by decide))
  have r2 := (B2 (by omega)).lt
  have z2 := g2.size
  clear B2 g2 H1 G1 P1
  go_wp2_with fail
  refine (all_calls s low _ h1).mono ?_
  rintro e w3 ⟨g, vcap, rfl, V3, g3⟩
  obtain ⟨base, hbase⟩ : ∃ q, w2.heap.size = q := ⟨_, rfl⟩
  rw [hbase] at V3
  have J0 := Lib.hid (show PI W base r c l s low (.slice (some ⟨g, 0, none⟩) (8 * s.size) vcap) 0 w3 from ⟨⟨0, 0, 0, R2.out.go g3, by decide⟩, V3, Nat.zero_le _, by omega, by omega, by omega, by omega, by omega, by omega, gb_trans G2.out g3⟩)
  clear V3 g3 G2 R2 hbase
  go_wp2_with fail
  go_loopg [13, 14] 61 (fun q av iv wr => ∃ (k a : Nat), k ≤ 60 ∧ k ≤ len ∧ q = 61 - k ∧ iv = .int .i64 k ∧ av = .int .i64 a ∧ PI W base r c l s low (.slice (some ⟨g, 0, none⟩) (8 * s.size) vcap) a wr)
  case atStart => exact ⟨0, 0, by omega, by omega, rfl, rfl, rfl, J0.out⟩
  case round =>
    obtain ⟨k, a, hk, hkl, rfl, rfl, rfl, I⟩ := hrel
    have HI := Lib.hid I
    clear I J0
    by_cases hlt : k < len ∧ k < 60
    · obtain ⟨hl1, hl2⟩ := hlt
      obtain rfl := HA.out (by omega)
      have hcell := HI.out.own.cell (HC.out k hl1) (by simp)
      obtain ⟨n, hn⟩ : ∃ n, zs.getD k 0 = n := ⟨_, rfl⟩
      rw [hn] at hcell
      clear hn
      obtain ⟨p, left, last, RR, h7⟩ := HI.out.rs
      have HR := Lib.hid RR
      obtain ⟨e1, e2, e3⟩ := RR.lost h7
      have hle := HI.out.le
      have E1 : (8 - (a : Int) % 8) % 8 = (left : Int) := by omega
      have E2 : ((a : Int) + 7) / 8 = (p : Int) := by omega
      clear RR e1 e2
      by_cases hn1 : n = -1
      · subst hn1
        go_wp2_with fail
        refine (left_bits r c last left low _ HR.out.bt).mono ?_
        rintro e w' ⟨rfl, rfl⟩
        go_wp2_with fail
        refine (align_bits r c last left low _ HR.out.bt).mono ?_
        rintro e w4 ⟨rfl, B4, g4⟩
        have HJ := Lib.hid (HI.out.align HR.out h7 B4 g4)
        clear B4 g4 HI HR
        go_wp2_with fail
        go_roundg (61 - (k + 1))
        case measure => omega
        case rel => exact ⟨k + 1, a + left, by omega, by omega, rfl, by go_num, by go_num, HJ.out⟩
      · by_cases hbad : n < 0 ∨ 32 < n
        · go_wp2_with fail
          refine (read_bad r n _ hbad).mono ?_
          rintro e w' ⟨rfl, rfl⟩
          rcases hbad with hneg | hbig
          · go_wp2_with fail
            refine (left_bits r c last left low _ HR.out.bt).mono ?_
            rintro e w' ⟨rfl, rfl⟩
            go_wp2_with fail
            refine (at_calls c l s _ _ _ _ HR.out.so).mono ?_
            rintro e w' ⟨rfl, rfl⟩
            go_wp2_with fail
            refine (steps_calls l _ _ HR.out.led).mono ?_
            rintro e w' ⟨rfl, rfl⟩
            rw [show (LW ((1000 : Nat) : Int) (p : Int)).ls.st = (p : Int) from rfl]
            go_wp2_with fail
            go_roundg (61 - (k + 1))
            case measure => omega
            case rel => exact ⟨k + 1, a, by omega, by omega, rfl, by go_num, by go_num, HI.out⟩
          · have hge : ¬ n < 0 := by omega
            go_wp2_with fail
            refine (left_bits r c last left low _ HR.out.bt).mono ?_
            rintro e w' ⟨rfl, rfl⟩
            go_wp2_with fail
            refine (at_calls c l s _ _ _ _ HR.out.so).mono ?_
            rintro e w' ⟨rfl, rfl⟩
            go_wp2_with fail
            refine (steps_calls l _ _ HR.out.led).mono ?_
            rintro e w' ⟨rfl, rfl⟩
            rw [show (LW ((1000 : Nat) : Int) (p : Int)).ls.st = (p : Int) from rfl]
            go_wp2_with fail
            go_roundg (61 - (k + 1))
            case measure => omega
            case rel => exact ⟨k + 1, a, by omega, by omega, rfl, by go_num, by go_num, HI.out⟩
        · obtain ⟨m, rfl⟩ : ∃ m : Nat, n = m := ⟨n.toNat, by omega⟩
          have hm32 : m ≤ 32 := by omega
          clear hbad hn1 E1 E2
          by_cases hend : 8 * s.size < a + m
          · go_wp2_with fail
            refine (read_end low 1000 r c l s a m p left last _ HR.out h7 hm32 hend).mono ?_
            rintro e w4 ⟨rfl, S4, t4⟩
            have HS := Lib.hid S4
            have G4 := Lib.hid (Tn.own HI.out.own t4 (by have := HI.out.rw_; have := HI.out.cw; have := HI.out.lw; simp; omega))
            clear S4 t4 HI HR
            go_wp2_with fail
            refine (left_calls c l s _ _ _ _ HS.out).mono ?_
            rintro e w' ⟨rfl, nq, rfl⟩
            rw [show ((s.size : Int) - s.size) = 0 from by omega]
            have G5 := Lib.hid (gb_trans G4.out (gb_drewN _ nq none))
            go_wp2_with fail
            refine (awake_calls _).mono ?_
            rintro e w9 ⟨rfl, g9⟩
            have G9 := Lib.hid (gb_trans G5.out g9)
            clear g9
            go_wp2
            go_ret
            exact ⟨rfl, G9.out⟩
          · go_wp2_with fail
            refine (read_yes low 1000 r c l s a m p left last _ HR.out h7 hm32 (by omega)).mono ?_
            rintro e w4 ⟨p', left', last', rfl, ⟨R4, h7'⟩, t4⟩
            have RR := Lib.hid R4
            have JJ := Lib.hid (HI.out.read R4 h7' (by omega) t4)
            obtain ⟨f1, f2, f3⟩ := R4.lost h7'
            have F1 : (8 - ((a : Int) + m) % 8) % 8 = (left' : Int) := by omega
            have F2 : ((a : Int) + m + 7) / 8 = (p' : Int) := by omega
            obtain ⟨V, hV⟩ : ∃ V, bitsV low s a m = V := ⟨_, rfl⟩
            have HV := Lib.hid hV
            simp only [hV]
            have hcap := row_cap JJ.out.row
            have HCE := Lib.hid (fun j (hj : j < m) => row_cell JJ.out.row (a + j) (by omega))
            clear R4 t4 f1 f2 HI HR hV
            by_cases hm0 : m = 0
            · subst hm0
              by_cases hv0 : vcap - a = 0
              all_goals
                go_wp2_with fail
                refine (number_zero low s a _ _ _).mono ?_
                rintro e w' ⟨rfl, rfl⟩
                rw [HV.out]
                go_wp2_with fail
                refine (left_bits r c last' left' low _ RR.out.bt).mono ?_
                rintro e w' ⟨rfl, rfl⟩
                go_wp2_with fail
                refine (at_calls c l s _ _ _ _ RR.out.so).mono ?_
                rintro e w' ⟨rfl, rfl⟩
                go_wp2_with fail
                refine (steps_calls l _ _ RR.out.led).mono ?_
                rintro e w' ⟨rfl, rfl⟩
                rw [show (LW ((1000 : Nat) : Int) (p' : Int)).ls.st = (p' : Int) from rfl]
                go_wp2_with fail
                go_roundg (61 - (k + 1))
                case measure => omega
                case rel => exact ⟨k + 1, a, by omega, by omega, rfl, by go_num, by first | rfl | go_num, JJ.out⟩
            · have hv0 : ¬ (vcap - a = 0) := by omega
              go_wp2_with fail
              refine (number_calls low s a g a m _ _ hm32 HCE.out).mono ?_
              rintro e w' ⟨rfl, rfl⟩
              rw [HV.out]
              go_wp2_with fail
              refine (left_bits r c last' left' low _ RR.out.bt).mono ?_
              rintro e w' ⟨rfl, rfl⟩
              go_wp2_with fail
              refine (at_calls c l s _ _ _ _ RR.out.so).mono ?_
              rintro e w' ⟨rfl, rfl⟩
              go_wp2_with fail
              refine (steps_calls l _ _ RR.out.led).mono ?_
              rintro e w' ⟨rfl, rfl⟩
              rw [show (LW ((1000 : Nat) : Int) (p' : Int)).ls.st = (p' : Int) from rfl]
              go_wp2_with fail
              go_roundg (61 - (k + 1))
              case measure => omega
              case rel => exact ⟨k + 1, a + m, by omega, by omega, rfl, by go_num, by go_num, JJ.out⟩
    · by_cases hl1 : k < len
      · have hl2 : ¬ k < 60 := fun h => hlt ⟨hl1, h⟩
        clear hlt
        go_wp2_with fail
        refine (bnew_nil low _).mono ?_
        rintro e w' ⟨rfl, rfl⟩
        go_wp2_with fail
        refine (awake_calls _).mono ?_
        rintro e w9 ⟨rfl, g9⟩
        have G9 := Lib.hid (gb_trans HI.out.own g9)
        clear g9
        go_wp2
        go_ret
        exact ⟨rfl, G9.out⟩
      · clear hlt
        go_wp2_with fail
        refine (bnew_nil low _).mono ?_
        rintro e w' ⟨rfl, rfl⟩
        go_wp2_with fail
        refine (awake_calls _).mono ?_
        rintro e w9 ⟨rfl, g9⟩
        have G9 := Lib.hid (gb_trans HI.out.own g9)
        clear g9
        go_wp2
        go_ret
        exact ⟨rfl, G9.out⟩

end Go.Proofs.Ythgpjdnppknghaa.Bi
