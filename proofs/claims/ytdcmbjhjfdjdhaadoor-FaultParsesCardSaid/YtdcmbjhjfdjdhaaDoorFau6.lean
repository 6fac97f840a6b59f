/- Package fault: the place that digits tell. -/
import Derived.Test.YtdcmbjhjfdjdhaaDoorFau5
import Derived.Lib.RabinKarpLaws
namespace Go.Proofs.YtdcmbjhjfdjdhaaDoor.Fa
open Go.ChangeShapes Go.WideShapes Go.ChangeAt Go.RowKit
open Go.Proofs.YtdcmbjhjfdjdhaaDoor.Le
set_option linter.unusedVariables false

/-- The number that digits go on to tell behind a; none: a byte is no digit, or it would be too great. -/
def pl : List UInt8 → Int → Option Int
  | [], a => some a
  | c :: cs, a => if (c.toNat : Int) < 48 ∨ 57 < (c.toNat : Int) then none else if (4611686018427387904 - ((c.toNat : Int) - 48)) / 10 < a then none else pl cs (10 * a + ((c.toNat : Int) - 48))
/-- The place of a text of digits. -/
def placeO (l : List UInt8) : Option Int := if l = [] ∨ (1 < l.length ∧ l.head? = some 48) then none else pl l 0
def tupO (o : Option Int) : Value := match o with
  | none => .tuple #[.int .i64 0, .bool false]
  | some a => .tuple #[.int .i64 a, .bool true]

/-- What holds at every round's head. -/
structure PlAt (s : ByteArray) (k : Nat) (a : Int) : Prop where
  is : placeO s.data.toList = pl (s.data.toList.drop k) a
  lo : 0 ≤ a
  hi : a ≤ 4611686018427387904
theorem pl_step (s : ByteArray) (k : Nat) (a : Int) (h : k < s.size) (hp : placeO s.data.toList = pl (s.data.toList.drop k) a) :
    placeO s.data.toList = if (s[k].toNat : Int) < 48 ∨ 57 < (s[k].toNat : Int) then none else if (4611686018427387904 - ((s[k].toNat : Int) - 48)) / 10 < a then none else pl (s.data.toList.drop (k + 1)) (10 * a + ((s[k].toNat : Int) - 48)) := by
  have h' : k < s.data.toList.length := by rw [← Lib.size_eq]; exact h
  rw [hp, List.drop_eq_getElem_cons h', byte_at' s k h h', pl]

set_option maxRecDepth 100000 in
set_option maxHeartbeats 4000000 in
theorem place_calls (s : ByteArray) (w : World) (hs : s.size ≤ 2147483647) :
    Calls Tryd.prog 26 #[.string s] w fun e w' => e = .returned (tupO (placeO s.data.toList)) ∧ w = w' := by
  have hsz := Lib.size_eq s
  by_cases h0 : s.size = 0
  · have e0 : s.data.toList = [] := List.eq_nil_of_length_eq_zero (by omega)
    have e1 : s.toList.isEmpty = true := by rw [Lib.toList_data, e0]; rfl
    rw [show placeO s.data.toList = none from by rw [e0]; rfl]
    clear hsz e0
    go_enter Tryd.func26, Tryd.ntmps26
    go_wp2
    go_ret2
    exact ⟨rfl, rfl⟩
  have hpos : 0 < s.size := by omega
  have e1 : s.toList.isEmpty = false := by
    rw [Lib.toList_data]
    rcases hl : s.data.toList with _ | ⟨c, cs⟩
    · rw [hl] at hsz
      exact absurd hsz (by simpa using h0)
    · rfl
  have hh : s.data.toList.head? = some s[0] := by
    have h := byte_at s 0 hpos
    rwa [← List.head?_eq_getElem?] at h
  have hne : s.data.toList ≠ [] := by
    intro h
    rw [h] at hh
    cases hh
  by_cases h1 : 1 < s.size ∧ s[0] = 48
  · rw [show placeO s.data.toList = none from by rw [placeO, if_pos (.inr ⟨by omega, by rw [hh, h1.2]⟩)]]
    have h2 := h1.1
    have e2 : ((s[0].toNat : Int) == 48) = true := by rw [h1.2]; rfl
    clear h1 hh hne hsz h0
    go_enter Tryd.func26, Tryd.ntmps26
    go_wp2
    go_ret2
    exact ⟨rfl, rfl⟩
  · have hp : placeO s.data.toList = pl s.data.toList 0 := by
      rw [placeO, if_neg]
      rintro (h | ⟨h, h'⟩)
      · exact hne h
      · rw [hh] at h'
        exact h1 ⟨by omega, Option.some.inj h'⟩
    have HP := Lib.hid hp
    have HL := Lib.hid hsz
    have e2 : s.size ≤ 1 ∨ ((s[0].toNat : Int) == 48) = false := by
      by_cases h : 1 < s.size
      · refine .inr ?_
        rw [beq_eq_false_iff_ne]
        intro h'
        refine h1 ⟨h, ?_⟩
        have h3 : s[0].toNat = 48 := by omega
        exact UInt8.toNat_inj.1 h3
      · exact .inl (by omega)
    clear h1 hh hne hp hsz h0
    rcases e2 with h2 | h2
    all_goals
      go_enter Tryd.func26, Tryd.ntmps26
      go_wp2_with fail
    all_goals
      go_loopg [4, 21] s.size (fun q av iv wr => ∃ (k : Nat) (at_ : Int), k ≤ s.size ∧ q = s.size - k ∧ av = .int .i64 at_ ∧ iv = .int .i64 k ∧ PlAt s k at_ ∧ w = wr)
      case atStart => exact ⟨0, 0, by omega, rfl, rfl, rfl, ⟨HP.out, by omega, by decide⟩, rfl⟩
      case round =>
        obtain ⟨k, at_, hk, rfl, rfl, rfl, J, rfl⟩ := hrel
        have HJ := Lib.hid J
        have a0 := J.lo
        have a1 := J.hi
        clear J
        by_cases hlt : k < s.size
        · have hc := pl_step s k at_ hlt HJ.out.is
          have c255 : (s[k].toNat : Int) ≤ 255 := by have := s[k].toNat_lt; omega
          by_cases hd1 : (s[k].toNat : Int) < 48
          · rw [if_pos (.inl hd1)] at hc
            have HC := Lib.hid hc
            clear hc HP
            go_wp2
            go_ret2
            exact ⟨by rw [HC.out]; rfl, rfl⟩
          have hd1' : 48 ≤ (s[k].toNat : Int) := by omega
          clear hd1
          by_cases hd2 : 57 < (s[k].toNat : Int)
          · rw [if_pos (.inr hd2)] at hc
            have HC := Lib.hid hc
            clear hc HP
            go_wp2
            go_ret2
            exact ⟨by rw [HC.out]; rfl, rfl⟩
          have hd2' : (s[k].toNat : Int) ≤ 57 := by omega
          clear hd2
          rw [if_neg (by omega)] at hc
          by_cases hbig : (4611686018427387904 - ((s[k].toNat : Int) - 48)) / 10 < at_
          · rw [if_pos hbig] at hc
            have HC := Lib.hid hc
            clear hc HP
            go_wp2
            go_ret2
            exact ⟨by rw [HC.out]; rfl, rfl⟩
          · rw [if_neg hbig] at hc
            have HC := Lib.hid hc
            have hb2 : at_ ≤ (4611686018427387904 - ((s[k].toNat : Int) - 48)) / 10 := by omega
            have hb3 : 10 * at_ + ((s[k].toNat : Int) - 48) ≤ 4611686018427387904 := by omega
            clear hc hbig HP
            go_wp2
            go_roundg (s.size - (k + 1))
            case measure => omega
            case rel => exact ⟨k + 1, _, by omega, rfl, rfl, by go_num, ⟨HC.out, by omega, hb3⟩, rfl⟩
        · have hks : k = s.size := by omega
          have e3 : placeO s.data.toList = some at_ := by
            rw [HJ.out.is, hks, List.drop_of_length_le (by rw [← HL.out]; exact Nat.le_refl _), pl]
          have E3 := Lib.hid e3
          clear e3 HP HJ
          subst hks
          go_wp2
          go_ret2
          exact ⟨by rw [E3.out]; rfl, rfl⟩

end Go.Proofs.YtdcmbjhjfdjdhaaDoor.Fa
