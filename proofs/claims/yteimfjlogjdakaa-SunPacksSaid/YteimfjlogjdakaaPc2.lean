/- Layer 28: the document's Pack of a row. (Written by gen/pc2.py.) -/
import Derived.Test.YteimfjlogjdakaaPc1
import Derived.Laws.AppendOwn
import Derived.Laws.BytesString
import Derived.Lib.ConvBytes
import Derived.Lib.SlBytesRow
import Derived.Lib.AppendStr
import Derived.Deep.CutRange
import Derived.Deep.CutBlock
import Derived.BigRegion
namespace Go.Proofs.Yteimfjlogjdakaa.Pc
open Go.ChangeShapes Go.WideShapes Go.ChangeAt Go.RowKit
open Go.Proofs.Yteimfjlogjdakaa.Le Go.Proofs.Yteimfjlogjdakaa.St Go.Proofs.Yteimfjlogjdakaa.Bd
set_option linter.unusedVariables false

theorem und8p : Try.prog.underlying 26 = some (.slice 5) := by kernel_rfl
/-- One byte's text. -/
theorem conv_one (v : UInt8) (w : World) (b : Nat) (h : w.heap[b]? = some (.cells #[.int .u8 (v.toNat : Int)] 5 (0, 0))) : (convert 26 9 (.slice (some ⟨b, 0, none⟩) 1 1)).run Try.prog w = .ok (.string ⟨#[v]⟩) w := by
  have hb : Lib.Bytes w b 0 ⟨#[v]⟩ := fun i hi => by
    have hi' : i < 1 := hi
    obtain rfl : i = 0 := by omega
    rw [Nat.zero_add, blk_cell h 0]
    rfl
  exact Lib.run_convert_whole (P := Try.prog) w 26 5 9 und8p (by kernel_rfl) (by kernel_rfl) b 0 ⟨#[v]⟩ hb 1
theorem txt_app (a b : List UInt8) : (⟨(a ++ b).toArray⟩ : ByteArray) = (⟨a.toArray⟩ : ByteArray) ++ ⟨b.toArray⟩ := by
  apply ByteArray.ext
  simp
theorem ex_one (s : ByteArray) (i : Nat) (h : i < s.size) : s.extract i (i + 1) = ⟨#[bu s i]⟩ := by
  apply ByteArray.ext
  apply Array.toList_inj.1
  show (s.extract i (i + 1)).data.toList = [bu s i]
  rw [Lib.extract_data, show i + 1 - i = 1 by omega]
  have hl : s.data.toList.length = s.size := (Lib.size_eq s).symm
  have hd : s.data.toList.drop i ≠ [] := by
    intro e
    have := congrArg List.length e
    simp only [List.length_drop, List.length_nil] at this
    omega
  obtain ⟨x, l, hx⟩ := List.exists_cons_of_ne_nil hd
  rw [hx]
  have h0 : (s.data.toList.drop i)[0]? = some x := by rw [hx]; rfl
  rw [List.getElem?_drop, Nat.add_zero] at h0
  unfold bu
  rw [List.getD_eq_getElem?_getD, h0]
  rfl

set_option maxRecDepth 100000 in
set_option maxHeartbeats 4000000 in
theorem rpack_calls (s : ByteArray) (hsz : s.size ≤ 400000) (W : World) :
    Calls Try.prog 7 #[.string s] W fun e w' => ∃ N, SN s 63 N ∧ e = .returned (.string ⟨(pu fP s 63 N).toArray⟩) ∧ W.grownBy w' none := by
  have HSZ := Lib.hid hsz
  go_enter Try.func7, Try.ntmps7
  go_wp2
  go_loopg [3, 4] s.size (fun q ov iv wr => ∃ (j i : Nat) (t : List UInt8), i ≤ s.size ∧ q = s.size - i ∧ ov = .string ⟨t.toArray⟩ ∧ iv = .int .i64 (i : Int) ∧ ps s 63 j = i ∧ (∀ x, x < j → ps s 63 x < s.size) ∧ pu fP s 63 j = t ∧ t.length ≤ 2 * i ∧ W.grownBy wr none)
  case atStart => exact ⟨0, 0, [], Nat.zero_le _, rfl, rfl, rfl, rfl, fun x hx => absurd hx (by omega), rfl, Nat.zero_le _, gb_refl _ _⟩
  case round =>
    obtain ⟨j, i, t, hi, rfl, rfl, rfl, hps, hpl, hpu, ht, g⟩ := hrel
    have HPS := Lib.hid hps
    have HPL := Lib.hid hpl
    have HPU := Lib.hid hpu
    have HT := Lib.hid ht
    have HG := Lib.hid g
    clear hps hpl hpu ht g
    by_cases hlt : i < s.size
    · have d1 : (i : Int) < (s.size : Int) := by omega
      go_upto_block 2 with fail
      go_cut [5] from 10 to 32 (fun nv wx => ∃ k : Nat, nv = .int .i64 (k : Int) ∧ SK s 63 i k ∧ W.grownBy wx none)
      case first =>
        go_wp2_with fail
        go_loopg [5] 64 (fun q nv wx => ∃ k : Nat, 1 ≤ k ∧ k ≤ 63 ∧ i + k ≤ s.size ∧ q = 65 - k ∧ nv = .int .i64 (k : Int) ∧ (∀ j, j < k → bu s (i + j) = bu s i) ∧ W.grownBy wx none)
        case atStart => exact ⟨1, Nat.le_refl _, by omega, by omega, rfl, rfl, fun j hj => (by obtain rfl : j = 0 := (by omega); rfl), HG.out⟩
        case round =>
          obtain ⟨k, hk1, hk2, hkN, rfl, rfl, hall, g⟩ := hrel
          have HALL := Lib.hid hall
          have HG2 := Lib.hid g
          clear hall g
          obtain ⟨p, hp⟩ : ∃ p, i + k = p := ⟨_, rfl⟩
          have hw : IntKind.i64.wrap ((i : Int) + (k : Int)) = (p : Int) := by rw [IntWalk.i64_in _ (by omega)]; omega
          have HP := Lib.hid hp
          by_cases h128 : k < 63
          · have e2 : (k : Int) < 63 := by omega
            by_cases hpN : p < s.size
            · have e1 : (p : Int) < (s.size : Int) := by omega
              obtain ⟨z, hz⟩ : ∃ z, bu s p = z := ⟨_, rfl⟩
              obtain ⟨y, hy⟩ : ∃ z, bu s i = z := ⟨_, rfl⟩
              have ez := bu_nat s p hpN hz
              have ey := bu_nat s i hlt hy
              have HZ := Lib.hid hz
              have HYY := Lib.hid hy
              clear hz hy hp
              by_cases he : z = y
              · have e3 : ((z.toNat : Int) == (y.toNat : Int)) = true := by rw [he]; exact beq_self_eq_true _
                have HE := Lib.hid he
                clear he
                go_wp2_with fail
                go_quiet (fail)
                have HG3 := Lib.hid (gb_trans HG2.out (gb_drewN wr nq none))
                go_wp2
                go_roundg (65 - (k + 1))
                case measure => omega
                case rel => exact ⟨k + 1, by omega, by omega, by have := HP.out; omega, rfl, by go_num, fun j hj => (by
                  by_cases hjk : j < k
                  · exact HALL.out j hjk
                  · obtain rfl : j = k := by omega
                    rw [HP.out, HZ.out, HYY.out, HE.out]), HG3.out⟩
              · have e3 : ((z.toNat : Int) == (y.toNat : Int)) = false := by
                  rw [beq_eq_false_iff_ne]
                  intro e
                  exact he (u_eq (by omega))
                have HE := Lib.hid he
                clear he
                go_wp2_with fail
                go_quiet (fail)
                have HG3 := Lib.hid (gb_trans HG2.out (gb_drewN wr nq none))
                go_wp2
                go_meet
                case rel => exact ⟨k, rfl, ⟨hk1, hk2, hkN, HALL.out, .inr (.inr (by rw [HP.out, HZ.out, HYY.out]; exact HE.out))⟩, HG3.out⟩
            · have e1 : ¬ (p : Int) < (s.size : Int) := by omega
              clear hp
              go_wp2_with fail
              go_quiet (fail)
              have HG3 := Lib.hid (gb_trans HG2.out (gb_drewN wr nq none))
              go_wp2
              go_meet
              case rel => exact ⟨k, rfl, ⟨hk1, hk2, hkN, HALL.out, .inr (.inl (by have := HP.out; omega))⟩, HG3.out⟩
          · have e2 : decide ((k : Int) < 63) = false := decide_eq_false (by omega)
            clear hp
            go_wp2_with fail
            go_quiet (fail)
            have HG3 := Lib.hid (gb_trans HG2.out (gb_drewN wr nq none))
            go_wp2
            go_meet
            case rel => exact ⟨k, rfl, ⟨hk1, hk2, hkN, HALL.out, .inl (by omega)⟩, HG3.out⟩
      case rest =>
        obtain ⟨k, rfl, hk, g⟩ := hcut
        have HK := Lib.hid hk
        have HG1 := Lib.hid g
        have hk1 := hk.k1
        have hk2 := hk.km
        have hk3 := hk.le
        clear g hk HG
        obtain ⟨p, hp⟩ : ∃ p, i + k = p := ⟨_, rfl⟩
        have hwp : IntKind.i64.wrap ((i : Int) + (k : Int)) = (p : Int) := by rw [IntWalk.i64_in _ (by omega)]; omega
        have HP := Lib.hid (show i + k = p ∧ p ≤ s.size by omega)
        replace HP := Lib.hid (show i + k = p by omega)
        have HPN := Lib.hid (show ∀ x, x < j + 1 → ps s 63 x < s.size from fun x hx => by
          by_cases e : x = j
          · rw [e, HPS.out]; exact hlt
          · exact HPL.out x (by omega))
        obtain ⟨c, hc⟩ : ∃ c, bu s i = c := ⟨_, rfl⟩
        have ec := bu_nat s i hlt hc
        have c256 := u_lt c
        have HC := Lib.hid hc
        obtain ⟨T, hT⟩ : ∃ z, (⟨t.toArray⟩ : ByteArray) = z := ⟨_, rfl⟩
        have HTS := Lib.hid (show T.size = t.length by rw [← hT]; simp [ByteArray.size])
        rw [hT]
        have HTT := Lib.hid hT
        obtain ⟨q, hq⟩ : ∃ q, i + 1 = q := ⟨_, rfl⟩
        have hw1i : IntKind.i64.wrap ((i : Int) + 1) = (q : Int) := by rw [IntWalk.i64_in _ (by omega)]; omega
        have i2 : (i : Int) ≤ (q : Int) := by omega
        have i3 : (q : Int) ≤ (s.size : Int) := by omega
        have i4 : i ≤ q := by omega
        have i5 : q ≤ s.size := by omega
        obtain ⟨x, hx⟩ : ∃ z, s.extract i q = z := ⟨_, rfl⟩
        have HXS := Lib.hid (show x.size = 1 by rw [← hx, ByteArray.size_extract]; omega)
        have HXX := Lib.hid (show (⟨#[bu s i]⟩ : ByteArray) = x by rw [← hx, ← hq, ex_one s i hlt])
        clear hq
        clear hp hc hT
        by_cases h1k : 1 < k
        · have d2 : (1 : Int) < (k : Int) := by omega
          obtain ⟨hb, hhb⟩ : ∃ z, UInt8.ofNat (192 + k) = z := ⟨_, rfl⟩
          have hw0 : (192 : Int) + (k : Int) = (hb.toNat : Int) := by rw [← hhb, ofNat_nat _ (by omega)]; omega
          have hb256 := u_lt hb
          have hw1 : IntKind.i64.wrap ((hb.toNat : Nat) : Int) = (hb.toNat : Int) := IntWalk.i64_in _ (by omega)
          have hw3 : IntKind.u8.wrap ((hb.toNat : Nat) : Int) = (hb.toNat : Int) := IntWalk.u8_in _ (by omega)
          have hw4 : ((hb.toNat : Nat) : Int) % 256 = (hb.toNat : Int) := by omega
          have HBB := Lib.hid hhb
          obtain ⟨hs, hhs⟩ : ∃ z, (⟨#[hb]⟩ : ByteArray) = z := ⟨_, rfl⟩
          have hcv := conv_one hb (wc.alloc (.cells #[.int .u8 (hb.toNat : Int)] 5)) wc.heap.size (heap_alloc_new wc _)
          have hs1 : hs.size = 1 := by rw [← hhs]; rfl
          rw [hhs] at hcv
          have HHS := Lib.hid hhs
          have z1 : ¬ 9223372036854775807 < T.size + hs.size := by have := HTS.out; have := HT.out; have := HSZ.out; omega
          have z2 : ¬ 9223372036854775807 < (T ++ hs).size + x.size := by rw [ByteArray.size_append]; have := HTS.out; have := HT.out; have := HSZ.out; have := HXS.out; omega
          have HF := Lib.hid (show (⟨(t ++ fP k c).toArray⟩ : ByteArray) = (T ++ hs) ++ x by
            unfold fP
            rw [if_pos (by omega), txt_app, txt_app, HTT.out, HBB.out, ← HHS.out, ← HXX.out, HC.out, ByteArray.append_assoc])
          have HG3 := Lib.hid (gb_trans HG1.out (World.grownBy_alloc wc (.cells #[.int .u8 (hb.toNat : Int)] 5) none))
          clear hhb hhs
          go_wp2
          go_roundg (s.size - p)
          case measure => have := HP.out; omega
          case rel => exact ⟨j + 1, p, t ++ fP k c, by have := HP.out; omega, rfl, by rw [HF.out], rfl, by rw [← HP.out]; exact ps_next HPS.out hlt HK.out, HPN.out, by rw [pu_next HPS.out HK.out, HPU.out, HC.out], by have := HP.out; have := HT.out; have := fP_len k c hk1; rw [List.length_append]; omega, HG3.out⟩
        · have d2 : ¬ (1 : Int) < (k : Int) := by omega
          by_cases hc192 : 192 ≤ c.toNat
          · have d3 : (192 : Int) ≤ (c.toNat : Int) := by omega
            obtain ⟨hb, hhb⟩ : ∃ z, UInt8.ofNat (192 + k) = z := ⟨_, rfl⟩
            have hw0 : (192 : Int) + (k : Int) = (hb.toNat : Int) := by rw [← hhb, ofNat_nat _ (by omega)]; omega
            have hb256 := u_lt hb
            have hw1 : IntKind.i64.wrap ((hb.toNat : Nat) : Int) = (hb.toNat : Int) := IntWalk.i64_in _ (by omega)
            have hw3 : IntKind.u8.wrap ((hb.toNat : Nat) : Int) = (hb.toNat : Int) := IntWalk.u8_in _ (by omega)
            have hw4 : ((hb.toNat : Nat) : Int) % 256 = (hb.toNat : Int) := by omega
            have HBB := Lib.hid hhb
            obtain ⟨hs, hhs⟩ : ∃ z, (⟨#[hb]⟩ : ByteArray) = z := ⟨_, rfl⟩
            have hcv := conv_one hb (wc.alloc (.cells #[.int .u8 (hb.toNat : Int)] 5)) wc.heap.size (heap_alloc_new wc _)
            have hs1 : hs.size = 1 := by rw [← hhs]; rfl
            rw [hhs] at hcv
            have HHS := Lib.hid hhs
            have z1 : ¬ 9223372036854775807 < T.size + hs.size := by have := HTS.out; have := HT.out; have := HSZ.out; omega
            have z2 : ¬ 9223372036854775807 < (T ++ hs).size + x.size := by rw [ByteArray.size_append]; have := HTS.out; have := HT.out; have := HSZ.out; have := HXS.out; omega
            have HF := Lib.hid (show (⟨(t ++ fP k c).toArray⟩ : ByteArray) = (T ++ hs) ++ x by
              unfold fP
              rw [if_pos (by omega), txt_app, txt_app, HTT.out, HBB.out, ← HHS.out, ← HXX.out, HC.out, ByteArray.append_assoc])
            have HG3 := Lib.hid (gb_trans HG1.out (World.grownBy_alloc wc (.cells #[.int .u8 (hb.toNat : Int)] 5) none))
            clear hhb hhs
            go_wp2
            go_roundg (s.size - p)
            case measure => have := HP.out; omega
            case rel => exact ⟨j + 1, p, t ++ fP k c, by have := HP.out; omega, rfl, by rw [HF.out], rfl, by rw [← HP.out]; exact ps_next HPS.out hlt HK.out, HPN.out, by rw [pu_next HPS.out HK.out, HPU.out, HC.out], by have := HP.out; have := HT.out; have := fP_len k c hk1; rw [List.length_append]; omega, HG3.out⟩
          · have d3 : ¬ (192 : Int) ≤ (c.toNat : Int) := by omega
            have z2 : ¬ 9223372036854775807 < T.size + x.size := by have := HTS.out; have := HT.out; have := HSZ.out; have := HXS.out; omega
            have HF := Lib.hid (show (⟨(t ++ fP k c).toArray⟩ : ByteArray) = T ++ x by
              unfold fP
              rw [if_neg (by omega), List.nil_append, txt_app, HTT.out, ← HXX.out, HC.out])
            go_wp2
            go_roundg (s.size - p)
            case measure => have := HP.out; omega
            case rel => exact ⟨j + 1, p, t ++ fP k c, by have := HP.out; omega, rfl, by rw [HF.out], rfl, by rw [← HP.out]; exact ps_next HPS.out hlt HK.out, HPN.out, by rw [pu_next HPS.out HK.out, HPU.out, HC.out], by have := HP.out; have := HT.out; have := fP_len k c hk1; rw [List.length_append]; omega, HG1.out⟩
    · have hin : i = s.size := by omega
      have d1 : ¬ (i : Int) < (s.size : Int) := by omega
      have HN := Lib.hid (SN.mk (s := s) (m := 63) (N := j) HPL.out (by rw [HPS.out]; exact hin))
      clear hin
      go_wp2
      go_ret
      exact ⟨j, HN.out, by rw [HPU.out]; rfl, HG.out⟩

end Go.Proofs.Yteimfjlogjdakaa.Pc
