/- Layer 29: the document's Pack; the law SunPacks. (Written by gen/sp3.py.) -/
import Derived.Test.YteimfjlogjdakaaSp2
namespace Go.Proofs.Yteimfjlogjdakaa.Sp
open Go.ChangeShapes Go.WideShapes Go.ChangeAt Go.RowKit
open Go.Proofs.Yteimfjlogjdakaa.Le Go.Proofs.Yteimfjlogjdakaa.St Go.Proofs.Yteimfjlogjdakaa.Bd Go.Proofs.Yteimfjlogjdakaa.Pc
set_option linter.unusedVariables false

/-- What x rounds put for the byte c. -/
def rpS (c : UInt8) (x : Nat) : List UInt8 := (List.replicate x (if c.toNat = 128 then [c, 0] else [c])).flatten
theorem rpS_next (c : UInt8) (x : Nat) : rpS c (x + 1) = rpS c x ++ (if c.toNat = 128 then [c, 0] else [c]) := by
  unfold rpS
  rw [List.replicate_succ', List.flatten_append]
  simp
theorem rpS_yes (c : UInt8) (x : Nat) (h : c.toNat = 128) : rpS c (x + 1) = (rpS c x ++ [c]) ++ [0] := by rw [rpS_next, if_pos h, List.append_assoc]; rfl
theorem rpS_no (c : UInt8) (x : Nat) (h : c.toNat ≠ 128) : rpS c (x + 1) = rpS c x ++ [c] := by rw [rpS_next, if_neg h]
theorem rpS_len (c : UInt8) : ∀ x, (rpS c x).length ≤ 2 * x
  | 0 => Nat.zero_le _
  | x + 1 => by
    have := rpS_len c x
    rw [rpS_next, List.length_append]
    split <;> simp <;> omega
theorem rpS_is (k : Nat) (c : UInt8) (h1 : 1 ≤ k) (h : ¬ (3 ≤ k ∨ (1 < k ∧ c.toNat = 128))) : rpS c k = fS k c := by
  unfold fS
  rw [if_neg h]
  by_cases h8 : c.toNat = 128
  · obtain rfl : k = 1 := by omega
    rw [if_pos h8, show (1 : Nat) = 0 + 1 from rfl, rpS_yes c 0 h8]
    have : c = 128 := u_eq h8
    rw [this]
    rfl
  · rw [if_neg h8]
    have : k = 1 ∨ k = 2 := by omega
    rcases this with rfl | rfl
    · rw [show (1 : Nat) = 0 + 1 from rfl, rpS_no c 0 h8]; rfl
    · rw [show (2 : Nat) = 1 + 1 from rfl, rpS_no c 1 h8, show (1 : Nat) = 0 + 1 from rfl, rpS_no c 0 h8]; rfl

set_option maxRecDepth 100000 in
set_option maxHeartbeats 4000000 in
theorem rpack_calls (s : ByteArray) (hsz : s.size ≤ 400000) (W : World) :
    Calls Try.prog 10 #[.string s] W fun e w' => ∃ N, SN s 256 N ∧ e = .returned (.string ⟨(pu fS s 256 N).toArray⟩) ∧ W.grownBy w' none := by
  have HSZ := Lib.hid hsz
  have HY0 := Lib.hid (YB.start W)
  go_enter Try.func10, Try.ntmps10
  go_wp2
  go_loopg [3, 4] s.size (fun q ov iv wr => ∃ (j i : Nat) (t : List UInt8), i ≤ s.size ∧ q = s.size - i ∧ iv = .int .i64 (i : Int) ∧ ps s 256 j = i ∧ (∀ x, x < j → ps s 256 x < s.size) ∧ pu fS s 256 j = t ∧ t.length ≤ 2 * i ∧ YB W wr ov t)
  case atStart => exact ⟨0, 0, [], Nat.zero_le _, rfl, rfl, rfl, fun x hx => absurd hx (by omega), rfl, Nat.zero_le _, HY0.out⟩
  case round =>
    obtain ⟨j, i, t, hi, rfl, rfl, hps, hpl, hpu, ht, Y⟩ := hrel
    obtain ⟨go, co, rfl⟩ := Y.sh
    have HPS := Lib.hid hps
    have HPL := Lib.hid hpl
    have HPU := Lib.hid hpu
    have HT := Lib.hid ht
    have HY := Lib.hid Y
    have HG := Lib.hid (gb_refl wr none)
    clear hps hpl hpu ht Y HY0
    by_cases hlt : i < s.size
    · have d1 : (i : Int) < (s.size : Int) := by omega
      go_upto_block 2 with fail
      go_cut [5] from 12 to 34 (fun nv wx => ∃ k : Nat, nv = .int .i64 (k : Int) ∧ SK s 256 i k ∧ wr.grownBy wx none)
      case first =>
        go_wp2_with fail
        go_loopg [5] 257 (fun q nv wx => ∃ k : Nat, 1 ≤ k ∧ k ≤ 256 ∧ i + k ≤ s.size ∧ q = 258 - k ∧ nv = .int .i64 (k : Int) ∧ (∀ j, j < k → bu s (i + j) = bu s i) ∧ wr.grownBy wx none)
        case atStart => exact ⟨1, Nat.le_refl _, by omega, by omega, rfl, rfl, fun j hj => (by obtain rfl : j = 0 := (by omega); rfl), HG.out⟩
        case round =>
          obtain ⟨k, hk1, hk2, hkN, rfl, rfl, hall, g⟩ := hrel
          have HALL := Lib.hid hall
          have HG2 := Lib.hid g
          clear hall g
          obtain ⟨p, hp⟩ : ∃ p, i + k = p := ⟨_, rfl⟩
          have hw : IntKind.i64.wrap ((i : Int) + (k : Int)) = (p : Int) := by rw [IntWalk.i64_in _ (by omega)]; omega
          have HP := Lib.hid hp
          by_cases h128 : k < 256
          · have e2 : (k : Int) < 256 := by omega
            by_cases hpN : p < s.size
            · have e1 : (p : Int) < (s.size : Int) := by omega
              obtain ⟨z, hz⟩ : ∃ z, bu s p = z := ⟨_, rfl⟩
              obtain ⟨y, hy⟩ : ∃ z, bu s i = z := ⟨_, rfl⟩
              have ez := bu_nat s p hpN hz
              have ey := bu_nat s i hlt hy
              have HZ := Lib.hid hz
              have HYY := Lib.hid hy
              clear hz hy hp
              by_cases he : z = y
              · have e3 : ((z.toNat : Int) == (y.toNat : Int)) = true := by rw [he]; exact beq_self_eq_true _
                have HE := Lib.hid he
                clear he
                go_wp2_with fail
                go_quiet (fail)
                have HG3 := Lib.hid (gb_trans HG2.out (gb_drewN wr nq none))
                go_wp2
                go_roundg (258 - (k + 1))
                case measure => omega
                case rel => exact ⟨k + 1, by omega, by omega, by have := HP.out; omega, rfl, by go_num, fun j hj => (by
                  by_cases hjk : j < k
                  · exact HALL.out j hjk
                  · obtain rfl : j = k := by omega
                    rw [HP.out, HZ.out, HYY.out, HE.out]), HG3.out⟩
              · have e3 : ((z.toNat : Int) == (y.toNat : Int)) = false := by
                  rw [beq_eq_false_iff_ne]
                  intro e
                  exact he (u_eq (by omega))
                have HE := Lib.hid he
                clear he
                go_wp2_with fail
                go_quiet (fail)
                have HG3 := Lib.hid (gb_trans HG2.out (gb_drewN wr nq none))
                go_wp2
                go_meet
                case rel => exact ⟨k, rfl, ⟨hk1, hk2, hkN, HALL.out, .inr (.inr (by rw [HP.out, HZ.out, HYY.out]; exact HE.out))⟩, HG3.out⟩
            · have e1 : ¬ (p : Int) < (s.size : Int) := by omega
              clear hp
              go_wp2_with fail
              go_quiet (fail)
              have HG3 := Lib.hid (gb_trans HG2.out (gb_drewN wr nq none))
              go_wp2
              go_meet
              case rel => exact ⟨k, rfl, ⟨hk1, hk2, hkN, HALL.out, .inr (.inl (by have := HP.out; omega))⟩, HG3.out⟩
          · have e2 : decide ((k : Int) < 256) = false := decide_eq_false (by omega)
            clear hp
            go_wp2_with fail
            go_quiet (fail)
            have HG3 := Lib.hid (gb_trans HG2.out (gb_drewN wr nq none))
            go_wp2
            go_meet
            case rel => exact ⟨k, rfl, ⟨hk1, hk2, hkN, HALL.out, .inl (by omega)⟩, HG3.out⟩
      case rest =>
        obtain ⟨k, rfl, hk, g⟩ := hcut
        have HK := Lib.hid hk
        have HY1 := Lib.hid (HY.out.gb g)
        have hk1 := hk.k1
        have hk2 := hk.km
        have hk3 := hk.le
        clear g hk HG
        obtain ⟨p, hp⟩ : ∃ p, i + k = p := ⟨_, rfl⟩
        have hwp : IntKind.i64.wrap ((i : Int) + (k : Int)) = (p : Int) := by rw [IntWalk.i64_in _ (by omega)]; omega
        have HP := Lib.hid hp
        have HPN := Lib.hid (show ∀ x, x < j + 1 → ps s 256 x < s.size from fun x hx => by
          by_cases e : x = j
          · rw [e, HPS.out]; exact hlt
          · exact HPL.out x (by omega))
        obtain ⟨c, hc⟩ : ∃ c, bu s i = c := ⟨_, rfl⟩
        have ec := bu_nat s i hlt hc
        have c256 := u_lt c
        have HC := Lib.hid hc
        have HLT := Lib.hid hlt
        have HHI := Lib.hid hi
        have HLB := Lib.hid (show t.length ≤ 900000 by have := HT.out; have := HSZ.out; omega)
        clear hp hc
        by_cases h3k : 3 ≤ k
        · have d2 : (3 : Int) ≤ (k : Int) := by omega
          have HBR := Lib.hid (show 3 ≤ k ∨ (1 < k ∧ c.toNat = 128) by omega)
          have HF := Lib.hid (show fS k c = [128, UInt8.ofNat (k - 1), c] by unfold fS; rw [if_pos HBR.out])
          obtain ⟨m, hm⟩ : ∃ m, UInt8.ofNat (k - 1) = m := ⟨_, rfl⟩
          have hmn : (m.toNat : Int) = (k : Int) - 1 := by rw [← hm, ofNat_nat _ (by omega)]; omega
          have m256 := u_lt m
          have w1m : IntKind.i64.wrap ((k : Int) - 1) = (m.toNat : Int) := by rw [IntWalk.i64_in _ (by omega)]; omega
          have w2m : IntKind.u8.wrap (m.toNat : Int) = (m.toNat : Int) := IntWalk.u8_in _ (by omega)
          have w3m : (m.toNat : Int) % 256 = (m.toNat : Int) := by omega
          rw [hm] at HF
          clear hm hmn
          go_wp2_with (at_builtin; refine YB.app [128, m, c] 3 HY1.out rfl rfl (by decide) (by have := HLB.out; omega) rfl rfl rfl rfl ?_)
          intro o2 w2 hbo
          rw [← HF.out] at hbo
          have HBO := Lib.hid hbo
          clear hbo
          go_wp2_with fail
          go_roundg (s.size - p)
          case measure => have := HP.out; have := HLT.out; omega
          case rel => exact ⟨j + 1, p, t ++ fS k c, by have := HP.out; omega, rfl, rfl, by rw [← HP.out]; exact ps_next HPS.out HLT.out HK.out, HPN.out, by rw [pu_next HPS.out HK.out, HPU.out, HC.out], by have := HP.out; have := HT.out; have := fS_len k c hk1; rw [List.length_append]; omega, HBO.out⟩
        · have d2 : ¬ (3 : Int) ≤ (k : Int) := by omega
          by_cases hc8 : c.toNat = 128
          · have d3 : ((c.toNat : Int) == 128) = true := by rw [beq_iff_eq]; omega
            have D8 := Lib.hid hc8
            by_cases h2k : k = 2
            · have d4 : ((k : Int) == 2) = true := by rw [beq_iff_eq]; omega
              have HBR := Lib.hid (show 3 ≤ k ∨ (1 < k ∧ c.toNat = 128) by omega)
              clear hc8 h2k
              have HF := Lib.hid (show fS k c = [128, UInt8.ofNat (k - 1), c] by unfold fS; rw [if_pos HBR.out])
              obtain ⟨m, hm⟩ : ∃ m, UInt8.ofNat (k - 1) = m := ⟨_, rfl⟩
              have hmn : (m.toNat : Int) = (k : Int) - 1 := by rw [← hm, ofNat_nat _ (by omega)]; omega
              have m256 := u_lt m
              have w1m : IntKind.i64.wrap ((k : Int) - 1) = (m.toNat : Int) := by rw [IntWalk.i64_in _ (by omega)]; omega
              have w2m : IntKind.u8.wrap (m.toNat : Int) = (m.toNat : Int) := IntWalk.u8_in _ (by omega)
              have w3m : (m.toNat : Int) % 256 = (m.toNat : Int) := by omega
              rw [hm] at HF
              clear hm hmn
              go_wp2_with (at_builtin; refine YB.app [128, m, c] 3 HY1.out rfl rfl (by decide) (by have := HLB.out; omega) rfl rfl rfl rfl ?_)
              intro o2 w2 hbo
              rw [← HF.out] at hbo
              have HBO := Lib.hid hbo
              clear hbo
              go_wp2_with fail
              go_roundg (s.size - p)
              case measure => have := HP.out; have := HLT.out; omega
              case rel => exact ⟨j + 1, p, t ++ fS k c, by have := HP.out; omega, rfl, rfl, by rw [← HP.out]; exact ps_next HPS.out HLT.out HK.out, HPN.out, by rw [pu_next HPS.out HK.out, HPU.out, HC.out], by have := HP.out; have := HT.out; have := fS_len k c hk1; rw [List.length_append]; omega, HBO.out⟩
            · have d4 : ((k : Int) == 2) = false := by rw [beq_eq_false_iff_ne]; omega
              have HBR := Lib.hid (show ¬ (3 ≤ k ∨ (1 < k ∧ c.toNat = 128)) by omega)
              clear hc8
              have HF := Lib.hid (rpS_is k c hk1 HBR.out)
              have HYS := Lib.hid (show YB W wc (.slice (some ⟨go, 0, none⟩) t.length co) (t ++ rpS c 0) by show YB W wc _ (t ++ []); rw [List.append_nil]; exact HY1.out)
              have HK1 := Lib.hid hk1
              go_wp2_with fail
              go_loopg [3, 6] k (fun q ov xv wx => ∃ x : Nat, x ≤ k ∧ q = k - x ∧ xv = .int .i64 (x : Int) ∧ YB W wx ov (t ++ rpS c x))
              case atStart => exact ⟨0, Nat.zero_le _, rfl, rfl, HYS.out⟩
              case round =>
                obtain ⟨x, hx, rfl, rfl, Y⟩ := hrel
                have HYX := Lib.hid Y
                obtain ⟨gx, cx, hov⟩ := Y.sh
                obtain ⟨nx, hnx⟩ : ∃ n, (t ++ rpS c x).length = n := ⟨_, rfl⟩
                rw [hnx] at hov
                subst hov
                clear hnx
                have HLX := Lib.hid (show (t ++ rpS c x).length ≤ 2000000 by have := HLB.out; have := rpS_len c x; rw [List.length_append]; omega)
                clear Y HYS
                by_cases hxk : x < k
                · have e1 : (x : Int) < (k : Int) := by omega
                  have hrp := rpS_yes c x D8.out
                  have HRP := Lib.hid hrp
                  clear hrp
                  go_wp2_with (at_builtin; refine YB.app [c] 1 HYX.out rfl rfl (by decide) (by have := HLX.out; omega) rfl rfl rfl rfl ?_)
                  intro o2 w2 hbo
                  have HBO := Lib.hid hbo
                  obtain ⟨gy, cy, hov⟩ := hbo.sh
                  obtain ⟨ny, hny⟩ : ∃ n, (t ++ rpS c x ++ [c]).length = n := ⟨_, rfl⟩
                  first | rw [hny] at hov | (rw [List.append_assoc] at hny; rw [hny] at hov)
                  subst hov
                  clear hbo hny
                  go_wp2_with (at_builtin; refine YB.app [0] 1 HBO.out rfl rfl (by decide) (by have := HLX.out; simp only [List.length_append, List.length_cons, List.length_nil] at this ⊢; omega) rfl rfl rfl rfl ?_)
                  intro o3 w3 hbo
                  have HBO3 := Lib.hid hbo
                  clear hbo
                  go_wp2_with fail
                  go_roundg (k - (x + 1))
                  case measure => omega
                  case rel => exact ⟨x + 1, by omega, rfl, by go_num, by rw [HRP.out]; first | exact HBO3.out | simpa only [List.append_assoc, List.cons_append, List.nil_append] using HBO3.out⟩
                · obtain rfl : x = k := by omega
                  have e1 : ¬ (x : Int) < (x : Int) := by omega
                  have HBO := Lib.hid (show YB W wr _ (t ++ fS x c) by rw [← HF.out]; exact HYX.out)
                  have hk1 := HK1.out
                  go_wp2_with fail
                  go_roundg (s.size - p)
                  case measure => have := HP.out; have := HLT.out; omega
                  case rel => exact ⟨j + 1, p, t ++ fS x c, by have := HP.out; omega, rfl, rfl, by rw [← HP.out]; exact ps_next HPS.out HLT.out HK.out, HPN.out, by rw [pu_next HPS.out HK.out, HPU.out, HC.out], by have := HP.out; have := HT.out; have := fS_len x c hk1; rw [List.length_append]; omega, HBO.out⟩
          · have d3 : ((c.toNat : Int) == 128) = false := by rw [beq_eq_false_iff_ne]; omega
            have D8 := Lib.hid hc8
            have HBR := Lib.hid (show ¬ (3 ≤ k ∨ (1 < k ∧ c.toNat = 128)) by omega)
            by_cases h2k : k = 2
            · have d4 : ((k : Int) == 2) = true := by rw [beq_iff_eq]; omega
              clear h2k
              have HF := Lib.hid (rpS_is k c hk1 HBR.out)
              have HYS := Lib.hid (show YB W wc (.slice (some ⟨go, 0, none⟩) t.length co) (t ++ rpS c 0) by show YB W wc _ (t ++ []); rw [List.append_nil]; exact HY1.out)
              have HK1 := Lib.hid hk1
              go_wp2_with fail
              go_loopg [3, 6] k (fun q ov xv wx => ∃ x : Nat, x ≤ k ∧ q = k - x ∧ xv = .int .i64 (x : Int) ∧ YB W wx ov (t ++ rpS c x))
              case atStart => exact ⟨0, Nat.zero_le _, rfl, rfl, HYS.out⟩
              case round =>
                obtain ⟨x, hx, rfl, rfl, Y⟩ := hrel
                have HYX := Lib.hid Y
                obtain ⟨gx, cx, hov⟩ := Y.sh
                obtain ⟨nx, hnx⟩ : ∃ n, (t ++ rpS c x).length = n := ⟨_, rfl⟩
                rw [hnx] at hov
                subst hov
                clear hnx
                have HLX := Lib.hid (show (t ++ rpS c x).length ≤ 2000000 by have := HLB.out; have := rpS_len c x; rw [List.length_append]; omega)
                clear Y HYS
                by_cases hxk : x < k
                · have e1 : (x : Int) < (k : Int) := by omega
                  have hrp := rpS_no c x D8.out
                  have HRP := Lib.hid hrp
                  clear hrp
                  go_wp2_with (at_builtin; refine YB.app [c] 1 HYX.out rfl rfl (by decide) (by have := HLX.out; omega) rfl rfl rfl rfl ?_)
                  intro o2 w2 hbo
                  have HBO := Lib.hid hbo
                  clear hbo
                  go_wp2_with fail
                  go_roundg (k - (x + 1))
                  case measure => omega
                  case rel => exact ⟨x + 1, by omega, rfl, by go_num, by rw [HRP.out]; first | exact HBO.out | (rw [← List.append_assoc]; exact HBO.out)⟩
                · obtain rfl : x = k := by omega
                  have e1 : ¬ (x : Int) < (x : Int) := by omega
                  have HBO := Lib.hid (show YB W wr _ (t ++ fS x c) by rw [← HF.out]; exact HYX.out)
                  have hk1 := HK1.out
                  go_wp2_with fail
                  go_roundg (s.size - p)
                  case measure => have := HP.out; have := HLT.out; omega
                  case rel => exact ⟨j + 1, p, t ++ fS x c, by have := HP.out; omega, rfl, rfl, by rw [← HP.out]; exact ps_next HPS.out HLT.out HK.out, HPN.out, by rw [pu_next HPS.out HK.out, HPU.out, HC.out], by have := HP.out; have := HT.out; have := fS_len x c hk1; rw [List.length_append]; omega, HBO.out⟩
            · have d4 : ((k : Int) == 2) = false := by rw [beq_eq_false_iff_ne]; omega
              have HF := Lib.hid (rpS_is k c hk1 HBR.out)
              have HYS := Lib.hid (show YB W wc (.slice (some ⟨go, 0, none⟩) t.length co) (t ++ rpS c 0) by show YB W wc _ (t ++ []); rw [List.append_nil]; exact HY1.out)
              have HK1 := Lib.hid hk1
              go_wp2_with fail
              go_loopg [3, 6] k (fun q ov xv wx => ∃ x : Nat, x ≤ k ∧ q = k - x ∧ xv = .int .i64 (x : Int) ∧ YB W wx ov (t ++ rpS c x))
              case atStart => exact ⟨0, Nat.zero_le _, rfl, rfl, HYS.out⟩
              case round =>
                obtain ⟨x, hx, rfl, rfl, Y⟩ := hrel
                have HYX := Lib.hid Y
                obtain ⟨gx, cx, hov⟩ := Y.sh
                obtain ⟨nx, hnx⟩ : ∃ n, (t ++ rpS c x).length = n := ⟨_, rfl⟩
                rw [hnx] at hov
                subst hov
                clear hnx
                have HLX := Lib.hid (show (t ++ rpS c x).length ≤ 2000000 by have := HLB.out; have := rpS_len c x; rw [List.length_append]; omega)
                clear Y HYS
                by_cases hxk : x < k
                · have e1 : (x : Int) < (k : Int) := by omega
                  have hrp := rpS_no c x D8.out
                  have HRP := Lib.hid hrp
                  clear hrp
                  go_wp2_with (at_builtin; refine YB.app [c] 1 HYX.out rfl rfl (by decide) (by have := HLX.out; omega) rfl rfl rfl rfl ?_)
                  intro o2 w2 hbo
                  have HBO := Lib.hid hbo
                  clear hbo
                  go_wp2_with fail
                  go_roundg (k - (x + 1))
                  case measure => omega
                  case rel => exact ⟨x + 1, by omega, rfl, by go_num, by rw [HRP.out]; first | exact HBO.out | (rw [← List.append_assoc]; exact HBO.out)⟩
                · obtain rfl : x = k := by omega
                  have e1 : ¬ (x : Int) < (x : Int) := by omega
                  have HBO := Lib.hid (show YB W wr _ (t ++ fS x c) by rw [← HF.out]; exact HYX.out)
                  have hk1 := HK1.out
                  go_wp2_with fail
                  go_roundg (s.size - p)
                  case measure => have := HP.out; have := HLT.out; omega
                  case rel => exact ⟨j + 1, p, t ++ fS x c, by have := HP.out; omega, rfl, rfl, by rw [← HP.out]; exact ps_next HPS.out HLT.out HK.out, HPN.out, by rw [pu_next HPS.out HK.out, HPU.out, HC.out], by have := HP.out; have := HT.out; have := fS_len x c hk1; rw [List.length_append]; omega, HBO.out⟩
    · have hin : i = s.size := by omega
      have d1 : ¬ (i : Int) < (s.size : Int) := by omega
      have HN := Lib.hid (SN.mk (s := s) (m := 256) (N := j) HPL.out (by rw [HPS.out]; exact hin))
      have hcv := HY.out.conv
      clear hin
      go_wp2
      go_ret
      exact ⟨j, HN.out, by rw [HPU.out]; rfl, HY.out.g⟩

end Go.Proofs.Yteimfjlogjdakaa.Sp
