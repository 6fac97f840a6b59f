/- Package fault: the number of a word. -/
import Derived.Test.YtdcmbjhjfdjdhaaDoorFau4
import Derived.Deep.LoopGhost
namespace Go.Proofs.YtdcmbjhjfdjdhaaDoor.Fa
open Go.ChangeShapes Go.WideShapes Go.ChangeAt Go.RowKit
open Go.Proofs.YtdcmbjhjfdjdhaaDoor.Le
set_option linter.unusedVariables false

/-- The first of n numbers from k on whose word is s. -/
def findW (f : Int → ByteArray) (s : ByteArray) : Nat → Nat → Int × Bool
  | 0, _ => (0, false)
  | n + 1, k => if f k = s then ((k : Int), true) else findW f s n (k + 1)

set_option maxRecDepth 100000 in
set_option maxHeartbeats 2000000 in
theorem knumber_calls (s : ByteArray) (w : World) : Calls Tryd.prog 25 #[.string s, .func (.func 9) #[] #[]] w
    fun e w' => e = .returned (.tuple #[.int .i64 (findW kw s 5 0).1, .bool (findW kw s 5 0).2]) ∧ w.grownBy w' none := by
  have K := Lib.hid (fun n w => kind_calls n w)
  go_enter Tryd.func25, Tryd.ntmps25
  go_wp2_with fail
  go_loopg [6] 6 (fun q iv wr => ∃ k : Nat, k ≤ 5 ∧ q = 6 - k ∧ iv = .int .i64 k ∧ findW kw s 5 0 = findW kw s (5 - k) k ∧ w.grownBy wr none)
  case atStart => exact ⟨0, by omega, rfl, rfl, rfl, gb_refl _ _⟩
  case round =>
    obtain ⟨k, hk, rfl, rfl, J, G⟩ := hrel
    have HJ := Lib.hid J
    have HG := Lib.hid G
    clear J G
    by_cases h5 : k < 5
    · have z1 := kw_not (n := (k : Int)) (by omega)
      have KK := K.out (k : Int)
      obtain ⟨z, hz⟩ : ∃ z, kw (k : Int) = z := ⟨_, rfl⟩
      rw [hz] at z1 KK
      have hz1 : z.toList.isEmpty = false := by rw [Lib.toList_data]; simpa using z1
      have HK := Lib.hid KK
      have HZ := Lib.hid hz
      clear z1 KK hz
      go_wp2_with fail
      refine (HK.out _).mono ?_
      rintro e w1 ⟨rfl, g1⟩
      have G1 := Lib.hid (gb_trans HG.out g1)
      clear g1
      go_wp2_with fail
      refine (HK.out _).mono ?_
      rintro e w2 ⟨rfl, g2⟩
      have G2 := Lib.hid (gb_trans G1.out g2)
      clear g2 G1 HG
      by_cases he : z = s
      · have e1 : findW kw s (5 - k) k = ((k : Int), true) := by
          rw [show 5 - k = (4 - k) + 1 from by omega, findW, if_pos (HZ.out.trans he)]
        have e2 : (z.toList == s.toList) = true := by rw [he]; simp
        have E1 := Lib.hid e1
        clear e1 HZ HK he
        go_wp2
        go_ret2
        exact ⟨by rw [HJ.out, E1.out]; first | done | rfl, G2.out⟩
      · have e1 : findW kw s (5 - k) k = findW kw s (4 - k) (k + 1) := by
          rw [show 5 - k = (4 - k) + 1 from by omega, findW, if_neg (fun h => he (HZ.out.symm.trans h))]
        have e2 : (z.toList == s.toList) = false := by
          rw [beq_eq_false_iff_ne, Lib.toList_data, Lib.toList_data]
          exact fun h => he (ByteArray.ext (Array.toList_inj.1 h))
        have E1 := Lib.hid e1
        clear e1 HK HZ he
        go_wp2
        go_roundg (6 - (k + 1))
        case measure => omega
        case rel => exact ⟨k + 1, by omega, rfl, by go_num, HJ.out.trans (E1.out.trans (by rw [show 5 - (k + 1) = 4 - k from by omega])), G2.out⟩
    · have hk5 : k = 5 := by omega
      subst hk5
      have KK := K.out ((5 : Nat) : Int)
      rw [show kw ((5 : Nat) : Int) = ⟨#[]⟩ from rfl] at KK
      have HK := Lib.hid KK
      clear KK K
      go_wp2_with fail
      refine (HK.out _).mono ?_
      rintro e w1 ⟨rfl, g1⟩
      have G1 := Lib.hid (gb_trans HG.out g1)
      clear g1
      go_wp2
      go_ret2
      exact ⟨by rw [HJ.out]; rfl, G1.out⟩

set_option maxRecDepth 100000 in
set_option maxHeartbeats 2000000 in
theorem fnumber_calls (s : ByteArray) (w : World) : Calls Tryd.prog 25 #[.string s, .func (.func 11) #[] #[]] w
    fun e w' => e = .returned (.tuple #[.int .i64 (findW fw s 9 0).1, .bool (findW fw s 9 0).2]) ∧ w.grownBy w' none := by
  have K := Lib.hid (fun n w => format_calls n w)
  go_enter Tryd.func25, Tryd.ntmps25
  go_wp2_with fail
  go_loopg [6] 10 (fun q iv wr => ∃ k : Nat, k ≤ 9 ∧ q = 10 - k ∧ iv = .int .i64 k ∧ findW fw s 9 0 = findW fw s (9 - k) k ∧ w.grownBy wr none)
  case atStart => exact ⟨0, by omega, rfl, rfl, rfl, gb_refl _ _⟩
  case round =>
    obtain ⟨k, hk, rfl, rfl, J, G⟩ := hrel
    have HJ := Lib.hid J
    have HG := Lib.hid G
    clear J G
    by_cases h5 : k < 9
    · have z1 := fw_not (n := (k : Int)) (by omega)
      have KK := K.out (k : Int)
      obtain ⟨z, hz⟩ : ∃ z, fw (k : Int) = z := ⟨_, rfl⟩
      rw [hz] at z1 KK
      have hz1 : z.toList.isEmpty = false := by rw [Lib.toList_data]; simpa using z1
      have HK := Lib.hid KK
      have HZ := Lib.hid hz
      clear z1 KK hz
      go_wp2_with fail
      refine (HK.out _).mono ?_
      rintro e w1 ⟨rfl, g1⟩
      have G1 := Lib.hid (gb_trans HG.out g1)
      clear g1
      go_wp2_with fail
      refine (HK.out _).mono ?_
      rintro e w2 ⟨rfl, g2⟩
      have G2 := Lib.hid (gb_trans G1.out g2)
      clear g2 G1 HG
      by_cases he : z = s
      · have e1 : findW fw s (9 - k) k = ((k : Int), true) := by
          rw [show 9 - k = (8 - k) + 1 from by omega, findW, if_pos (HZ.out.trans he)]
        have e2 : (z.toList == s.toList) = true := by rw [he]; simp
        have E1 := Lib.hid e1
        clear e1 HZ HK he
        go_wp2
        go_ret2
        exact ⟨by rw [HJ.out, E1.out]; first | done | rfl, G2.out⟩
      · have e1 : findW fw s (9 - k) k = findW fw s (8 - k) (k + 1) := by
          rw [show 9 - k = (8 - k) + 1 from by omega, findW, if_neg (fun h => he (HZ.out.symm.trans h))]
        have e2 : (z.toList == s.toList) = false := by
          rw [beq_eq_false_iff_ne, Lib.toList_data, Lib.toList_data]
          exact fun h => he (ByteArray.ext (Array.toList_inj.1 h))
        have E1 := Lib.hid e1
        clear e1 HK HZ he
        go_wp2
        go_roundg (10 - (k + 1))
        case measure => omega
        case rel => exact ⟨k + 1, by omega, rfl, by go_num, HJ.out.trans (E1.out.trans (by rw [show 9 - (k + 1) = 8 - k from by omega])), G2.out⟩
    · have hk5 : k = 9 := by omega
      subst hk5
      have KK := K.out ((9 : Nat) : Int)
      rw [show fw ((9 : Nat) : Int) = ⟨#[]⟩ from rfl] at KK
      have HK := Lib.hid KK
      clear KK K
      go_wp2_with fail
      refine (HK.out _).mono ?_
      rintro e w1 ⟨rfl, g1⟩
      have G1 := Lib.hid (gb_trans HG.out g1)
      clear g1
      go_wp2
      go_ret2
      exact ⟨by rw [HJ.out]; rfl, G1.out⟩

end Go.Proofs.YtdcmbjhjfdjdhaaDoor.Fa
