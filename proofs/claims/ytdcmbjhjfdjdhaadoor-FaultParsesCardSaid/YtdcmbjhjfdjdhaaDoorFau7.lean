/- Package fault: what a text is. -/
import Derived.Test.YtdcmbjhjfdjdhaaDoorFau6
import Derived.Test.YtdcmbjhjfdjdhaaDoorShelf
import Derived.Laws.ResultCell
namespace Go.Proofs.YtdcmbjhjfdjdhaaDoor.Fa
open Go.ChangeShapes Go.WideShapes Go.ChangeAt Go.RowKit
open Go.Proofs.YtdcmbjhjfdjdhaaDoor.Le
set_option linter.unusedVariables false

/-- The words and digits of a text: up to a blank, up to the next one, the rest. -/
def w1 (l : List UInt8) : List UInt8 := (Lib.cut l [32]).1
def r1 (l : List UInt8) : List UInt8 := (Lib.cut l [32]).2.1
theorem cut_len (l sep : List UInt8) : (Lib.cut l sep).1.length ≤ l.length ∧ (Lib.cut l sep).2.1.length ≤ l.length := by
  unfold Lib.cut
  split
  · refine ⟨?_, ?_⟩
    · show (List.take _ l).length ≤ _
      rw [List.length_take]; omega
    · show (List.drop _ l).length ≤ _
      rw [List.length_drop]; omega
  · exact ⟨Nat.le_refl _, Nat.zero_le _⟩
/-- The cut of a text at its first blank. -/
theorem cut1 (s : ByteArray) (l : List UInt8) (hl : s.data.toList = l) (m : Int) (w : World) (hs : s.size < 4294967281) (hm : w.cell? ⟨0, 0, none⟩ = some (.int .i64 m)) :
    Calls Tryd.prog 24 #[.string s, .string ⟨#[32]⟩] w fun e w' => e = .returned (.tuple #[.string ⟨(w1 l).toArray⟩, .string ⟨(r1 l).toArray⟩, .bool (Lib.cut l [32]).2.2]) ∧ ∃ n, w' = w.drewN n := by
  subst hl
  exact Tryd.strings_Cut s ⟨#[32]⟩ m w hs hm
def kOf (l : List UInt8) : Int × Bool := findW kw ⟨(w1 l).toArray⟩ 5 0
def mOf (l : List UInt8) : Int × Bool := findW fw ⟨(w1 (r1 l)).toArray⟩ 9 0
def aOf (l : List UInt8) : Option Int := placeO (r1 (r1 l))
/-- What Parse answers. -/
def fin (kb xb ab R : Bool) (k x a : Int) : Value :=
  if (kb && (xb && (ab && R))) = true then .tuple #[.agg #[.int .i64 k, .int .i64 x, .int .i64 a], .int .i64 0]
  else .tuple #[.agg #[.int .i64 0, .int .i64 0, .int .i64 0], .int .i64 6]
theorem fin_k {kb xb ab R : Bool} {k x a : Int} (h : ¬ kb = true) : fin kb xb ab R k x a = .tuple #[.agg #[.int .i64 0, .int .i64 0, .int .i64 0], .int .i64 6] := by
  simp [fin, h]
theorem fin_x {kb xb ab R : Bool} {k x a : Int} (h : ¬ xb = true) : fin kb xb ab R k x a = .tuple #[.agg #[.int .i64 0, .int .i64 0, .int .i64 0], .int .i64 6] := by
  simp [fin, h]
theorem fin_a {kb xb ab R : Bool} {k x a : Int} (h : ¬ ab = true) : fin kb xb ab R k x a = .tuple #[.agg #[.int .i64 0, .int .i64 0, .int .i64 0], .int .i64 6] := by
  simp [fin, h]
theorem fin_R {kb xb ab : Bool} {k x a : Int} : fin kb xb ab false k x a = .tuple #[.agg #[.int .i64 0, .int .i64 0, .int .i64 0], .int .i64 6] := by
  simp [fin]
theorem fin_ok {kb xb ab : Bool} {k x a : Int} (h : kb = true) (i : xb = true) (j : ab = true) : fin kb xb ab true k x a = .tuple #[.agg #[.int .i64 k, .int .i64 x, .int .i64 a], .int .i64 0] := by
  simp [fin, h, i, j]
def parseV (l : List UInt8) : Value :=
  fin (kOf l).2 (mOf l).2 (aOf l).isSome (rightB (kOf l).1 (mOf l).1 ((aOf l).getD 0)) (kOf l).1 (mOf l).1 ((aOf l).getD 0)
theorem tupO_is (o : Option Int) : tupO o = .tuple #[.int .i64 (o.getD 0), .bool o.isSome] := by cases o <;> rfl

set_option maxRecDepth 100000 in
set_option maxHeartbeats 4000000 in
theorem parse_go (s : ByteArray) (l : List UInt8) (hl : s.data.toList = l) (m : Int) (w : World) (hs : s.size ≤ 2147483647) (hm : w.cell? ⟨0, 0, none⟩ = some (.int .i64 m))
    (k x a : Int) (kb xb ab : Bool)
    (K1 : ∀ w, Calls Tryd.prog 25 #[.string ⟨(w1 l).toArray⟩, .func (.func 9) #[] #[]] w fun e w' => e = .returned (.tuple #[.int .i64 k, .bool kb]) ∧ w.grownBy w' none)
    (K2 : ∀ w, Calls Tryd.prog 25 #[.string ⟨(w1 (r1 l)).toArray⟩, .func (.func 11) #[] #[]] w fun e w' => e = .returned (.tuple #[.int .i64 x, .bool xb]) ∧ w.grownBy w' none)
    (K3 : ∀ w, Calls Tryd.prog 26 #[.string ⟨(r1 (r1 l)).toArray⟩] w fun e w' => e = .returned (.tuple #[.int .i64 a, .bool ab]) ∧ w = w') :
    Calls Tryd.prog 14 #[.string s] w fun e w' => e = .returned (fin kb xb ab (rightB k x a) k x a) ∧ w.grownBy w' none := by
  have hsl : l.length = s.size := by rw [← hl, ← Lib.size_eq]
  have l1 := (cut_len l [32]).2
  have C1 := Lib.hid (fun w' h => cut1 s l hl m w' (by omega) h)
  have C2 := Lib.hid (fun w' h => cut1 ⟨(r1 l).toArray⟩ (r1 l) rfl m w' (by rw [Lib.size_eq]; show (r1 l).length < _; unfold r1; omega) h)
  have K1 := Lib.hid K1
  have K2 := Lib.hid K2
  have K3 := Lib.hid K3
  have HM := Lib.hid hm
  have HR := Lib.hid (fun w => right_calls k x a w)
  obtain ⟨R, hR⟩ : ∃ R, rightB k x a = R := ⟨_, rfl⟩
  rw [hR]
  rw [hR] at HR
  clear hl hsl l1 hm hR
  go_enter Tryd.func14, Tryd.ntmps14
  go_wp2_with fail
  refine (C1.out _ ((World.grownBy_alloc _ _ none).cell HM.out (by simp))).mono ?_
  rintro e v1 ⟨rfl, n1, rfl⟩
  go_wp2_with fail
  refine (C2.out _ ((gb_trans (World.grownBy_alloc _ _ none) (gb_drewN _ _ none)).cell HM.out (by simp))).mono ?_
  rintro e v2 ⟨rfl, n2, rfl⟩
  go_wp2_with fail
  refine (K1.out _).mono ?_
  rintro e v3 ⟨rfl, g3⟩
  have g3 := gb_trans (gb_drewN _ _ _) g3
  have hf := old1 g3 (by simp)
  have G3 := Lib.hid (gb_trans (World.grownBy_alloc _ _ none) g3)
  clear g3
  go_wp2_with fail
  refine (K2.out _).mono ?_
  rintro e v4 ⟨rfl, g4⟩
  have hf := old0 g4 hf (blk_lt hf) (by simp)
  have G4 := Lib.hid (gb_trans G3.out g4)
  clear g4 G3
  go_wp2_with fail
  refine (K3.out _).mono ?_
  rintro e v5 ⟨rfl, rfl⟩
  have hlt := blk_lt hf
  have hb := blk_al hf (.cells #[.int .i64 k, .int .i64 x, .int .i64 a] 23 (0, 0))
  have c0 := blk_cell hb 0
  have c1 := blk_cell hb 1
  have c2 := blk_cell hb 2
  have z0 := blk_free hb 0
  have z1 := blk_free hb 1
  have z2 := blk_free hb 2
  have d0 := blk_cell hf 0
  have d1 := blk_cell hf 1
  have d2 := blk_cell hf 2
  have y0 := blk_free hf 0
  have y1 := blk_free hf 1
  have y2 := blk_free hf 2
  simp only [List.getElem?_toArray, List.getElem?_cons_succ, List.getElem?_cons_zero] at c0 c1 c2 d0 d1 d2
  go_wp2_with fail
  · refine (HR.out _).mono ?_
    rintro e v6 ⟨rfl, g6⟩
    have f0 := blk_cell (old1 g6 (by simp)) 0
    have f1 := blk_cell (old1 g6 (by simp)) 1
    have f2 := blk_cell (old1 g6 (by simp)) 2
    have hb := old0 g6 hb (blk_lt hb) (by simp)
    have G6 := Lib.hid (gb_trans (gb_trans G4.out (World.grownBy_alloc _ _ none)) g6)
    clear c0 c1 c2 d0 d1 d2 y0 y1 y2 z0 z1 z2 g6 G4
    have c0 := blk_cell hb 0
    have c1 := blk_cell hb 1
    have c2 := blk_cell hb 2
    have z0 := blk_free hb 0
    have z1 := blk_free hb 1
    have z2 := blk_free hb 2
    simp only [List.getElem?_toArray, List.getElem?_cons_succ, List.getElem?_cons_zero] at c0 c1 c2 f0 f1 f2
    cases R
    · go_wp2_with fail
      refine bodyPost_ret (v := .tuple #[.agg #[.int .i64 0, .int .i64 0, .int .i64 0], .int .i64 6]) ?_ ?_ ?_
      · rw [results_cell_tmp (fn := Tryd.f14) rfl]; go_simp
      · rfl
      exact ⟨congrArg Ending.returned fin_R.symm, gb_own (gb_own (gb_own G6.out (Nat.le_refl _) (gb_set _ _ _ _)) (Nat.le_refl _) (gb_set _ _ _ _)) (Nat.le_refl _) (gb_set _ _ _ _)⟩
    · go_wp2_with fail
      refine bodyPost_ret (v := .tuple #[.agg #[.int .i64 k, .int .i64 x, .int .i64 a], .int .i64 0]) ?_ ?_ ?_
      · rw [results_cell_tmp (fn := Tryd.f14) rfl]; go_simp
      · rfl
      exact ⟨congrArg Ending.returned (fin_ok ‹kb = true› ‹xb = true› ‹ab = true›).symm, gb_own (gb_own (gb_own G6.out (Nat.le_refl _) (gb_set _ _ _ _)) (Nat.le_refl _) (gb_set _ _ _ _)) (Nat.le_refl _) (gb_set _ _ _ _)⟩
  all_goals
    refine bodyPost_ret (v := .tuple #[.agg #[.int .i64 0, .int .i64 0, .int .i64 0], .int .i64 6]) ?_ ?_ ?_
    · rw [results_cell_tmp (fn := Tryd.f14) rfl]; go_simp
    · rfl
    refine ⟨?_, gb_trans (gb_own (gb_own (gb_own G4.out (Nat.le_refl _) (gb_set _ _ _ _)) (Nat.le_refl _) (gb_set _ _ _ _)) (Nat.le_refl _) (gb_set _ _ _ _)) (World.grownBy_alloc _ _ none)⟩
    first | exact congrArg Ending.returned (fin_k ‹¬ kb = true›).symm | exact congrArg Ending.returned (fin_x ‹¬ xb = true›).symm | exact congrArg Ending.returned (fin_a ‹¬ ab = true›).symm

/-- Parse, of the code. -/
theorem parse_calls (s : ByteArray) (m : Int) (w : World) (hs : s.size ≤ 2147483647) (hm : w.cell? ⟨0, 0, none⟩ = some (.int .i64 m)) :
    Calls Tryd.prog 14 #[.string s] w fun e w' => e = .returned (parseV s.data.toList) ∧ w.grownBy w' none := by
  have hz := Lib.size_eq s
  have l1 := (cut_len s.data.toList [32]).2
  have l2 := (cut_len (r1 s.data.toList) [32]).2
  refine parse_go s s.data.toList rfl m w hs hm _ _ _ _ _ _ (fun w => knumber_calls ⟨(w1 s.data.toList).toArray⟩ w) (fun w => fnumber_calls ⟨(w1 (r1 s.data.toList)).toArray⟩ w) (fun w => ?_)
  refine (place_calls ⟨(r1 (r1 s.data.toList)).toArray⟩ w ?_).mono ?_
  · rw [Lib.size_eq]
    show (r1 (r1 s.data.toList)).length ≤ _
    unfold r1 at l2 ⊢
    omega
  · rintro e w' ⟨rfl, rfl⟩
    exact ⟨by rw [tupO_is]; rfl, rfl⟩

end Go.Proofs.YtdcmbjhjfdjdhaaDoor.Fa
