/- Layer 30, pure: no text has two signs but an icon's and TGA's. -/
import Derived.Test.YtibbebglbcjnmaaDoorSnK
namespace Go.Proofs.YtibbebglbcjnmaaDoor.Sn
open Go.Proofs.YtibbebglbcjnmaaDoor.Le Go.Proofs.YtibbebglbcjnmaaDoor.Tk Go.Proofs.YtibbebglbcjnmaaDoor.Dh Go.Proofs.YtibbebglbcjnmaaDoor.Id
set_option linter.unusedVariables false

theorem isB_at {sg s : ByteArray} (h : isB sg s = true) (i : Nat) (hi : i < sg.size) : bt s i = bt sg i := by
  unfold isB at h
  rw [Bool.and_eq_true, decide_eq_true_eq, beq_iff_eq] at h
  obtain ⟨h1, h2⟩ := h
  have e : (s.extract 0 sg.size).data.toList = sg.data.toList := by
    rw [Lib.toList_data, Lib.toList_data] at h2
    exact h2
  unfold bt
  rw [← e]
  congr 1
  simp only [ByteArray.data_extract, List.getD_eq_getElem?_getD, Array.getElem?_toList]
  rw [Array.getElem?_extract]
  simp
  split
  · rfl
  · omega
theorem tg_first {s : ByteArray} (h : Tg.tgB s = true) : bt s 1 ≤ 1 ∧ (bt s 1 = 0 → bt s 2 ≠ 1) := by
  rw [← tB_is] at h
  unfold tB mayT at h
  simp only [Bool.and_eq_true, Bool.or_eq_true, decide_eq_true_eq] at h
  omega
theorem beg_first {s : ByteArray} {b : Bool} (h : Beg s b) (e : b = true) : bt s 0 = 80 ∧ 49 ≤ bt s 1 ∧ bt s 1 ≤ 54 := by
  cases h <;> first | (cases e; done) | skip
  · rename_i y h hx hy h1 h2 hz; omega
  · rename_i y z h hx hy h1 h2 hz h3 h4; omega
theorem ver_ne {y : Nat} (h : verB y = true) : y ≠ 1 := by
  unfold verB at h
  rw [decide_eq_true_eq] at h
  omega
theorem pcx_first {s : ByteArray} {b : Bool} (h : Pb s b) (e : b = true) : bt s 0 = 10 ∧ bt s 1 ≠ 1 ∧ bt s 2 = 1 := by
  cases h with
  | short h => cases e
  | m x h h0 n0 => cases e
  | v y h h0 h1 n1 => cases e
  | p y z h h0 h1 n1 h2 n2 => cases e
  | b y q h h0 h1 n1 h2 h3 n3 n4 => cases e
  | one y h h0 h1 n1 h2 h3 => exact ⟨h0, by rw [h1]; exact ver_ne n1, h2⟩
  | eight y h h0 h1 n1 h2 h3 => exact ⟨h0, by rw [h1]; exact ver_ne n1, h2⟩
theorem ico_first {s : ByteArray} (h : icB s = true) : bt s 0 = 0 ∧ bt s 1 = 0 := by
  have b0 := bt_lt s 0
  have b1 := bt_lt s 1
  have b2 := bt_lt s 2
  have b3 := bt_lt s 3
  have hw : wrB s = decide (bt s 0 + 256 * bt s 1 ≠ 0 ∨ (bt s 2 + 256 * bt s 3 ≠ 1 ∧ bt s 2 + 256 * bt s 3 ≠ 2) ∨ bt s 4 + 256 * bt s 5 = 0) := rfl
  unfold icB at h
  rw [hw] at h
  simp only [Bool.and_eq_true, Bool.not_eq_true', decide_eq_true_eq, decide_eq_false_iff_not] at h
  omega
theorem two_at_most {s : ByteArray} {B : Nat → Bool} (H : Hs s B) (h2 : B 2 = Tg.tgB s) : (allL B).length < 2 ∨ allL B = [4, 2] := by
  have f1 : B 1 = true → bt s 0 = 66 ∧ bt s 1 = 77 := fun h => by
    rw [H.b1] at h
    exact ⟨isB_at h 0 (by decide), isB_at h 1 (by decide)⟩
  have f5 : B 5 = true → bt s 0 = 113 ∧ bt s 1 = 111 := fun h => by
    rw [H.b5] at h
    exact ⟨isB_at h 0 (by decide), isB_at h 1 (by decide)⟩
  have f6 : B 6 = true → bt s 0 = 102 ∧ bt s 1 = 97 := fun h => by
    rw [H.b6] at h
    exact ⟨isB_at h 0 (by decide), isB_at h 1 (by decide)⟩
  have f8 : B 8 = true → bt s 0 = 89 ∧ bt s 1 = 166 := fun h => by
    rw [H.b8] at h
    exact ⟨isB_at h 0 (by decide), isB_at h 1 (by decide)⟩
  have f3 := beg_first H.b3
  have f7 := pcx_first H.b7
  have f4 : B 4 = true → bt s 0 = 0 ∧ bt s 1 = 0 := fun h => by
    rw [H.b4] at h
    exact ico_first h
  have f2 : B 2 = true → bt s 1 ≤ 1 ∧ (bt s 1 = 0 → bt s 2 ≠ 1) := fun h => by
    rw [h2] at h
    exact tg_first h
  clear H h2
  have q : ∀ (k : Nat) {P : Prop}, (B k = true → P) → B k = false ∨ (B k = true ∧ P) := fun k P h => by
    cases e : B k with
    | false => exact .inl rfl
    | true => exact .inr ⟨rfl, h e⟩
  have q1 := q 1 f1
  have q2 := q 2 f2
  have q3 := q 3 f3
  have q4 := q 4 f4
  have q5 := q 5 f5
  have q6 := q 6 f6
  have q7 := q 7 f7
  have q8 := q 8 f8
  clear f1 f2 f3 f4 f5 f6 f7 f8 q
  rcases q1 with e1 | ⟨e1, g1⟩ <;> rcases q3 with e3 | ⟨e3, g3⟩ <;> (try (exfalso; omega)) <;>
  rcases q5 with e5 | ⟨e5, g5⟩ <;> (try (exfalso; omega)) <;> rcases q6 with e6 | ⟨e6, g6⟩ <;> (try (exfalso; omega)) <;>
  rcases q8 with e8 | ⟨e8, g8⟩ <;> (try (exfalso; omega)) <;> rcases q7 with e7 | ⟨e7, g7⟩ <;> (try (exfalso; omega)) <;>
  rcases q4 with e4 | ⟨e4, g4⟩ <;> (try (exfalso; omega)) <;> rcases q2 with e2 | ⟨e2, g2⟩ <;> (try (exfalso; omega)) <;>
  simp [allL, ordL, e1, e2, e3, e4, e5, e6, e7, e8]

end Go.Proofs.YtibbebglbcjnmaaDoor.Sn
