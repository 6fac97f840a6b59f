/- Layer 3's answer: Parse. -/
import Derived.Test.YtdcmbjhjfdjdhaaDoorFauD
import Derived.Deep.LoopGhost
namespace Go.Proofs.YtdcmbjhjfdjdhaaDoor.Fa
open Go.ChangeShapes Go.WideShapes Go.ChangeAt Go.RowKit
open Go.Proofs.YtdcmbjhjfdjdhaaDoor.Le
set_option linter.unusedVariables false

theorem head_at (s : ByteArray) (n : Nat) (h : n ≤ s.size) (w : World) :
    (Instr.slice 9 (.string s) none (some (.int .i64 (n : Int))) none).run Tryd.prog w = .ok (.string (s.extract 0 n)) w := by
  have ht' : Tryd.prog.underlying 9 = some .string := by kernel_rfl
  simp [Instr.slice, run_underlying ht', Instr.sliceBounds, run_sliceBound, Result.andThen, show (n : Int) ≤ s.size by omega]
theorem tail_at (s : ByteArray) (n : Nat) (h : n ≤ s.size) (w : World) :
    (Instr.slice 9 (.string s) (some (.int .i64 (n : Int))) none none).run Tryd.prog w = .ok (.string (s.extract n s.size)) w := by
  have ht' : Tryd.prog.underlying 9 = some .string := by kernel_rfl
  simp [Instr.slice, run_underlying ht', Instr.sliceBounds, run_sliceBound, Result.andThen, show (n : Int) ≤ s.size by omega]

def tup4 (r : Int × Int × Int × Bool) : Value := .tuple #[.int .i64 r.1, .int .i64 r.2.1, .int .i64 r.2.2.1, .bool r.2.2.2]

set_option maxRecDepth 100000 in
set_option maxHeartbeats 8000000 in
theorem rparse_calls (s : ByteArray) (w : World) (hs : s.size ≤ 100) :
    Calls Tryd.prog 16 #[.string s] w fun e w' => e = .returned (tup4 (rparse s.data.toList)) ∧ w.grownBy w' none := by
  have KA := Lib.hid (fun n w => rkind_calls n w)
  have KB := Lib.hid (fun n w => rformat_calls n w)
  have KR := Lib.hid (fun k m a w => rright_calls k m a w)
  obtain ⟨l, hl⟩ : ∃ l, s.data.toList = l := ⟨_, rfl⟩
  rw [hl]
  have HL := Lib.hid hl
  clear hl
  go_enter Tryd.func16, Tryd.ntmps16
  go_wp2_with fail
  go_loopg [6] 6 (fun q kv wr => ∃ k : Nat, k ≤ 5 ∧ q = 6 - k ∧ kv = .int .i64 k ∧ rK l 5 0 = rK l (5 - k) k ∧ w.grownBy wr none)
  case atStart => exact ⟨0, by omega, rfl, rfl, rfl, gb_refl _ _⟩
  case round =>
    obtain ⟨k, hk, rfl, rfl, J, G⟩ := hrel
    have HJ := Lib.hid J
    have HG := Lib.hid G
    clear J G
    by_cases h5 : k < 5
    · have h5d : decide ((k : Int) < 5) = true := by simp; omega
      go_wp2_with fail
      go_loopg [7] 10 (fun q fv wr => ∃ j : Nat, j ≤ 9 ∧ q = 10 - j ∧ fv = .int .i64 j ∧ rF l k 9 0 = rF l k (9 - j) j ∧ w.grownBy wr none)
      case atStart => exact ⟨0, by omega, rfl, rfl, rfl, HG.out⟩
      case round =>
        obtain ⟨j, hj, rfl, rfl, JF, GF⟩ := hrel
        have HJF := Lib.hid JF
        have HGF := Lib.hid GF
        clear JF GF
        by_cases h9 : j < 9
        · have KAk := KA.out (k : Int)
          have KBj := KB.out (j : Int)
          have sA := kw_size (k : Int)
          have sB := fw_size (j : Int)
          have eF : (kw k ++ ⟨#[32]⟩ ++ fw j ++ ⟨#[32]⟩ : ByteArray).data.toList = front k j := by simp [front, ByteArray.data_append]
          obtain ⟨A, hA⟩ : ∃ A, kw (k : Int) = A := ⟨_, rfl⟩
          obtain ⟨B, hB⟩ : ∃ B, fw (j : Int) = B := ⟨_, rfl⟩
          rw [hA] at KAk sA eF
          rw [hB] at KBj sB eF
          have KAk := Lib.hid KAk
          have KBj := Lib.hid KBj
          have s1 : ¬ 9223372036854775807 < A.size + 1 := by omega
          have s2 : ¬ 9223372036854775807 < A.size + 1 + B.size := by omega
          have s3 : ¬ 9223372036854775807 < A.size + 1 + B.size + 1 := by omega
          have zF : (A ++ ⟨#[32]⟩ ++ B ++ ⟨#[32]⟩ : ByteArray).size ≤ 20 := by simp [ByteArray.size_append]; have : (⟨#[32]⟩ : ByteArray).size = 1 := rfl; omega
          have EF := Lib.hid eF
          clear hA hB eF
          go_wp2_with fail
          refine (KAk.out _).mono ?_
          rintro e w2 ⟨rfl, g2⟩
          have G2 := Lib.hid (gb_trans HGF.out g2)
          clear g2
          go_wp2_with fail
          refine (KBj.out _).mono ?_
          rintro e w3 ⟨rfl, g3⟩
          have G3 := Lib.hid (gb_trans G2.out g3)
          clear g3 G2
          obtain ⟨F, hF⟩ : ∃ F, (A ++ ⟨#[32]⟩ ++ B ++ ⟨#[32]⟩ : ByteArray) = F := ⟨_, rfl⟩
          have EF' : F.data.toList = front k j := hF ▸ EF.out
          have hsz := Lib.size_eq s
          have hFz := Lib.size_eq F
          rw [HL.out] at hsz
          have zF' : F.size ≤ 20 := hF ▸ zF
          have hpre : (s.extract 0 F.size).data.toList = l.take F.size := by rw [Lib.extract_data, HL.out]; simp
          by_cases hH : Hit l k j
          · have e0 : rparse l = resV k j (rest l k j) := by
              unfold rparse
              rw [HJ.out, show 5 - k = (4 - k) + 1 from by omega, rK, HJF.out, show 9 - j = (8 - j) + 1 from by omega, rF, if_pos hH]
              rfl
            have g1 : ¬ (s.size : Int) ≤ F.size := by
              have := hH.1
              rw [← EF', ← hFz, ← hsz] at this
              omega
            have g2 : ((s.extract 0 F.size).toList == F.toList) = true := by
              rw [beq_iff_eq, Lib.toList_data, Lib.toList_data, hpre, EF', hFz, EF']
              exact hH.2
            have hD0 : (s.extract F.size s.size).data.toList = rest l k j := by
              rw [Lib.extract_data, HL.out]
              unfold rest
              rw [← EF', ← hFz]
              exact List.take_of_length_le (by rw [List.length_drop, ← hsz]; exact Nat.le_refl _)
            obtain ⟨D, hD⟩ : ∃ D, s.extract F.size s.size = D := ⟨_, rfl⟩
            rw [hD] at hD0
            have hDz := Lib.size_eq D
            have hDs : D.size = s.size - F.size := by rw [← hD, ByteArray.size_extract]; omega
            rw [hD0] at hDz
            have E0 := Lib.hid e0
            have HD0 := Lib.hid hD0
            have HDZ := Lib.hid hDz
            have d0 : 0 < D.size := by omega
            have hh : (rest l k j).head? = some D[0] := by
              have h := byte_at D 0 d0
              rw [hD0] at h
              rwa [← List.head?_eq_getElem?] at h
            have HH := Lib.hid hh
            clear e0 hD0 hDz hh hpre hsz hFz EF' zF hH
            by_cases h19 : 19 < D.size
            · have hr : resV k j (rest l k j) = (0, 0, 0, false) := by unfold resV rnum; rw [if_pos (.inl (by rw [← HDZ.out]; exact h19))]
              have h19' : (19 : Int) < D.size := by omega
              have HR := Lib.hid hr
              clear hr h19
              go_wp2
              refine bodyPost_ret (v := .tuple #[.int .i64 0, .int .i64 0, .int .i64 0, .bool false]) (by simp [results, Tryd.results16, go_sem]) rfl ⟨by rw [E0.out, HR.out]; rfl, G3.out⟩
            by_cases h48 : D[0] = 48 ∧ 1 < D.size
            · have hr : resV k j (rest l k j) = (0, 0, 0, false) := by unfold resV rnum; rw [if_pos (.inr ⟨by rw [HH.out, h48.1], by rw [← HDZ.out]; exact h48.2⟩)]
              have e48 : ((D[0].toNat : Int) == 48) = true := by rw [h48.1]; rfl
              have e1 : (1 : Int) < D.size := by omega
              have e19 : ¬ (19 : Int) < D.size := by omega
              have HR := Lib.hid hr
              clear hr h19 h48
              go_wp2
              refine bodyPost_ret (v := .tuple #[.int .i64 0, .int .i64 0, .int .i64 0, .bool false]) (by simp [results, Tryd.results16, go_sem]) rfl ⟨by rw [E0.out, HR.out]; rfl, G3.out⟩
            have hrn : rnum (rest l k j) = rdig (rest l k j) 0 := by
              unfold rnum
              rw [if_neg]
              rintro (h1 | ⟨h1, h2⟩)
              · exact h19 (by rw [HDZ.out]; exact h1)
              · rw [HH.out] at h1
                exact h48 ⟨Option.some.inj h1, by rw [HDZ.out]; exact h2⟩
            have HRN := Lib.hid hrn
            have e19 : ¬ (19 : Int) < D.size := by omega
            have e48 : ((D[0].toNat : Int) == 48) = false ∨ ¬ (1 : Int) < D.size := by
              by_cases h1 : (1 : Int) < D.size
              · refine .inl ?_
                rw [beq_eq_false_iff_ne]
                intro h'
                refine h48 ⟨?_, by omega⟩
                have h3 : D[0].toNat = 48 := by omega
                exact UInt8.toNat_inj.1 h3
              · exact .inr h1
            clear hrn h19 h48 HH
            have e48' : ((D[0].toNat : Int) == 48) = false ∨ (((D[0].toNat : Int) == 48) = true ∧ ¬ (1 : Int) < D.size) := by
              rcases e48 with h | h
              · exact .inl h
              · by_cases h' : ((D[0].toNat : Int) == 48) = true
                · exact .inr ⟨h', h⟩
                · exact .inl (by simpa using h')
            clear e48
            rcases e48' with e48 | ⟨e48, e1⟩
            all_goals
              go_wp2_with fail
            all_goals
              go_loopg [10, 11] D.size (fun q vv iv wr => ∃ (m : Nat) (v : Int), m ≤ D.size ∧ q = D.size - m ∧ vv = .int .i64 v ∧ iv = .int .i64 m ∧ rdig (rest l k j) 0 = rdig ((rest l k j).drop m) v ∧ 0 ≤ v ∧ v ≤ 4611686018427387909 ∧ w3 = wr)
              case atStart => exact ⟨0, 0, by omega, rfl, rfl, rfl, rfl, by decide, by decide, rfl⟩
              case round =>
                clear e48 hD d0
                obtain ⟨m, v, hm, rfl, rfl, rfl, R, v0, v1, rfl⟩ := hrel
                by_cases hlt : m < D.size
                · have hst := R
                  have hlen : m < (rest l k j).length := by rw [← HDZ.out]; exact hlt
                  have hel : (rest l k j)[m] = D[m] := by
                    have h := byte_at D m hlt
                    rw [HD0.out, List.getElem?_eq_getElem hlen] at h
                    exact Option.some.inj h
                  rw [List.drop_eq_getElem_cons hlen, rdig, hel] at hst
                  have c255 : (D[m].toNat : Int) ≤ 255 := by have := D[m].toNat_lt; omega
                  by_cases hd1 : (D[m].toNat : Int) < 48 ∨ 57 < (D[m].toNat : Int) ∨ 461168601842738790 < v
                  · rw [if_pos hd1] at hst
                    have hr : resV k j (rest l k j) = (0, 0, 0, false) := by unfold resV; rw [HRN.out, hst]
                    have HR := Lib.hid hr
                    clear hr hst R hel hlen
                    rcases hd1 with h | h | h
                    · go_wp2
                      refine bodyPost_ret (v := .tuple #[.int .i64 0, .int .i64 0, .int .i64 0, .bool false]) (by simp [results, Tryd.results16, go_sem]) rfl ⟨by rw [E0.out, HR.out]; rfl, G3.out⟩
                    · have h' : ¬ (D[m].toNat : Int) < 48 := by omega
                      go_wp2
                      refine bodyPost_ret (v := .tuple #[.int .i64 0, .int .i64 0, .int .i64 0, .bool false]) (by simp [results, Tryd.results16, go_sem]) rfl ⟨by rw [E0.out, HR.out]; rfl, G3.out⟩
                    · by_cases h1 : (D[m].toNat : Int) < 48
                      · go_wp2
                        refine bodyPost_ret (v := .tuple #[.int .i64 0, .int .i64 0, .int .i64 0, .bool false]) (by simp [results, Tryd.results16, go_sem]) rfl ⟨by rw [E0.out, HR.out]; rfl, G3.out⟩
                      · by_cases h2 : 57 < (D[m].toNat : Int)
                        · go_wp2
                          refine bodyPost_ret (v := .tuple #[.int .i64 0, .int .i64 0, .int .i64 0, .bool false]) (by simp [results, Tryd.results16, go_sem]) rfl ⟨by rw [E0.out, HR.out]; rfl, G3.out⟩
                        · go_wp2
                          refine bodyPost_ret (v := .tuple #[.int .i64 0, .int .i64 0, .int .i64 0, .bool false]) (by simp [results, Tryd.results16, go_sem]) rfl ⟨by rw [E0.out, HR.out]; rfl, G3.out⟩
                  · rw [if_neg hd1] at hst
                    have b1 : ¬ (D[m].toNat : Int) < 48 := by omega
                    have b2 : ¬ 57 < (D[m].toNat : Int) := by omega
                    have b3 : ¬ 461168601842738790 < v := by omega
                    have HST := Lib.hid hst
                    clear hd1 hst R hel hlen
                    go_wp2
                    go_roundg (D.size - (m + 1))
                    case measure => omega
                    case rel => exact ⟨m + 1, _, by omega, rfl, rfl, by go_num, HST.out, by omega, by omega, rfl⟩
                · have hmD : m = D.size := by omega
                  have hdr : (rest l k j).drop m = [] := List.drop_of_length_le (by rw [← HDZ.out, hmD]; exact Nat.le_refl _)
                  have hv : rnum (rest l k j) = some v := by rw [HRN.out, R, hdr, rdig]
                  have KRv := KR.out (k : Int) (j : Int) v
                  have HV := Lib.hid hv
                  obtain ⟨b, hb⟩ : ∃ b, rightB k j v = b := ⟨_, rfl⟩
                  rw [hb] at KRv
                  have KRv := Lib.hid KRv
                  have HB := Lib.hid hb
                  clear hv hdr R hb
                  subst hmD
                  cases b with
                  | false =>
                    have hr : resV k j (rest l k j) = (0, 0, 0, false) := by unfold resV; rw [HV.out]; simp [HB.out]
                    have HR := Lib.hid hr
                    clear hr
                    go_wp2_with fail
                    refine (KRv.out _).mono ?_
                    rintro e w4 ⟨rfl, rfl⟩
                    go_wp2
                    refine bodyPost_ret (v := .tuple #[.int .i64 0, .int .i64 0, .int .i64 0, .bool false]) (by simp [results, Tryd.results16, go_sem]) rfl ⟨by rw [E0.out, HR.out]; rfl, G3.out⟩
                  | true =>
                    have hr : resV k j (rest l k j) = ((k : Int), (j : Int), v, true) := by unfold resV; rw [HV.out]; simp [HB.out]
                    have HR := Lib.hid hr
                    clear hr
                    go_wp2_with fail
                    refine (KRv.out _).mono ?_
                    rintro e w4 ⟨rfl, rfl⟩
                    go_wp2
                    refine bodyPost_ret (v := .tuple #[.int .i64 k, .int .i64 j, .int .i64 v, .bool true]) (by simp [results, Tryd.results16, go_sem]) rfl ⟨by rw [E0.out, HR.out]; rfl, G3.out⟩
          · have hst : rF l k (9 - j) j = rF l k (9 - (j + 1)) (j + 1) := by
              rw [show 9 - j = (8 - j) + 1 from by omega, rF, if_neg hH, show 9 - (j + 1) = 8 - j from by omega]
            have HST := Lib.hid (HJF.out.trans hst)
            clear hst
            by_cases hle : s.size ≤ F.size
            · have g1 : (s.size : Int) ≤ F.size := by omega
              clear hH hpre hsz hFz EF' zF
              go_wp2
              go_roundg (10 - (j + 1))
              case measure => omega
              case rel => exact ⟨j + 1, by omega, rfl, by go_num, HST.out, G3.out⟩
            · have g1 : ¬ (s.size : Int) ≤ F.size := by omega
              have g2 : ((s.extract 0 F.size).toList == F.toList) = false := by
                rw [beq_eq_false_iff_ne, Lib.toList_data, Lib.toList_data, hpre, EF', hFz, EF']
                intro h
                refine hH ⟨?_, h⟩
                rw [← EF', ← hFz, ← hsz]
                omega
              clear hH hpre hsz hFz EF' zF hle
              go_wp2
              go_roundg (10 - (j + 1))
              case measure => omega
              case rel => exact ⟨j + 1, by omega, rfl, by go_num, HST.out, G3.out⟩
        · have h9' : j = 9 := by omega
          subst h9'
          have hst : rK l (5 - k) k = rK l (5 - (k + 1)) (k + 1) := by
            have e : rF l k 9 0 = none := HJF.out
            rw [show 5 - k = (4 - k) + 1 from by omega, rK, e, show 5 - (k + 1) = 4 - k from by omega]
          have HST := Lib.hid (HJ.out.trans hst)
          clear hst
          go_wp2
          go_roundg (6 - (k + 1))
          case measure => omega
          case rel => exact ⟨k + 1, by omega, rfl, by go_num, HST.out, HGF.out⟩
    · have h5' : k = 5 := by omega
      subst h5'
      have e0 : rparse l = (0, 0, 0, false) := by
        unfold rparse
        rw [HJ.out]
        rfl
      have E0 := Lib.hid e0
      clear e0
      go_wp2
      refine bodyPost_ret (v := .tuple #[.int .i64 0, .int .i64 0, .int .i64 0, .bool false]) (by simp [results, Tryd.results16, go_sem]) rfl ⟨by rw [E0.out]; rfl, HG.out⟩

end Go.Proofs.YtdcmbjhjfdjdhaaDoor.Fa
