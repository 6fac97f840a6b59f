/- The law RasterImages, of any images. -/
import Derived.Test.YthgpjdnppknghaaRim7
namespace Go.Proofs.Ythgpjdnppknghaa.Ra
open Go.ChangeShapes Go.WideShapes Go.ChangeAt Go.RowKit
open Go.Proofs.Ythgpjdnppknghaa.Le Go.Proofs.Ythgpjdnppknghaa.Bu Go.Proofs.Ythgpjdnppknghaa.Nu
set_option linter.unusedVariables false

theorem ri_any (X Y x y X2 Y2 : Int) (a a2 : Option Addr) (c c2 : Nat) (S S2 : ByteArray) (w : World) (h1 : Bx a S w) (h2 : Bx a2 S2 w) (hc : S.size ≤ c) (hcm : c ≤ 9223372036854775807) (hna : a = none → c = 0 ∧ S.size = 0) :
    Calls Try.prog 6 #[.agg #[.int .i64 X, .int .i64 Y, .slice a S.size c], .agg #[.int .i64 X2, .int .i64 Y2, .slice a2 S2.size c2], .int .i64 x, .int .i64 y] w fun e w' => e = .returned (.bool true) ∧ w.grownBy w' none := by
  by_cases hf : 2000 < S.size ∨ 2000 < S2.size
  · exact ri_far X Y x y X2 Y2 a a2 S.size c S2.size c2 w hf
  have hs : S.size ≤ 2000 := by omega
  have hs2 : S2.size ≤ 2000 := by omega
  have KR := Lib.hid (fun u => right_calls X Y a S.size c u (by omega))
  have KRR := Lib.hid (fun u => rright_calls X Y a S.size c u (by omega))
  have KS := Lib.hid (fun u (g : w.grownBy u none) => same_calls' X Y X2 Y2 a a2 c c2 S S2 u (h1.grown g) (h2.grown g))
  have KRS := Lib.hid (fun u (g : w.grownBy u none) => rsame_calls X Y X2 Y2 a a2 c c2 S S2 u (h1.grown g) (h2.grown g))
  have KC := Lib.hid (fun u (g : w.grownBy u none) => clone_calls X Y a c S u (h1.grown g) hs hna)
  have KRC := Lib.hid (fun u a' c' (hb : Bx a' S u) (g : w.grownBy u none) => by
    have K := rsame_calls X Y X Y a' a c' c S S u hb (h1.grown g)
    rw [sameB_self] at K
    exact K)
  cases hr : rightB X Y S.size with
  | false =>
    simp only [hr] at KR KRR
    exact ri_wrong X Y x y X2 Y2 a a2 S.size c S2.size c2 S _ w hs hs2 KR KRR KS KRS KC KRC (Lib.hid (fun u _ => ipixel_wrong X Y x y a S.size c u (by omega) hr))
  | true =>
    simp only [hr] at KR KRR
    have KN := fun (hp : badP X Y x y) => Lib.hid (fun u (_ : w.grownBy u none) => ipixel_no X Y x y a S.size c u (by omega) hr hp)
    by_cases p1 : x < 0
    · exact ri_x0 X Y x y X2 Y2 a a2 S.size c S2.size c2 S _ w hs hs2 KR KRR KS KRS KC KRC (KN (.inl p1)) p1
    by_cases p2 : X ≤ x
    · exact ri_x1 X Y x y X2 Y2 a a2 S.size c S2.size c2 S _ w hs hs2 KR KRR KS KRS KC KRC (KN (.inr (.inl p2))) (by omega) p2
    by_cases p3 : y < 0
    · exact ri_y0 X Y x y X2 Y2 a a2 S.size c S2.size c2 S _ w hs hs2 KR KRR KS KRS KC KRC (KN (.inr (.inr (.inl p3)))) (by omega) (by omega) p3
    by_cases p4 : Y ≤ y
    · exact ri_y1 X Y x y X2 Y2 a a2 S.size c S2.size c2 S _ w hs hs2 KR KRR KS KRS KC KRC (KN (.inr (.inr (.inr p4)))) (by omega) (by omega) (by omega) p4
    have hr' := hr
    simp only [rightB, Bool.and_eq_true, decide_eq_true_eq] at hr'
    obtain ⟨⟨⟨⟨r1, r2⟩, r3⟩, r4⟩, r5⟩ := hr'
    obtain ⟨i, rfl⟩ : ∃ i : Nat, X = i := ⟨X.toNat, by omega⟩
    obtain ⟨j, rfl⟩ : ∃ j : Nat, Y = j := ⟨Y.toNat, by omega⟩
    obtain ⟨k, rfl⟩ : ∃ k : Nat, x = k := ⟨x.toNat, by omega⟩
    obtain ⟨m, rfl⟩ : ∃ m : Nat, y = m := ⟨y.toNat, by omega⟩
    have hmul : 4 * (i : Int) * (j : Int) = ((4 * (i * j) : Nat) : Int) := by rw [Int.natCast_mul, Int.natCast_mul, ← Int.mul_assoc]; rfl
    have hsz : S.size = 4 * (i * j) := by omega
    have hge : 1 ≤ i * j := Nat.mul_pos (by omega) (by omega)
    rcases h1 with h0 | ⟨b, off, rfl, hB⟩
    · omega
    · have KP := Lib.hid (fun u (g : w.grownBy u none) => ipixel_yes i j k m (m * i + k) b off c S u (by omega) (by omega) (by omega) (by omega) rfl hs hsz hc hcm (fun t ht => g.cell (hB t ht) (by simp)) hr)
      have KQ := Lib.hid (fun u (g : w.grownBy u none) => rpixel_calls i j k m (m * i + k) b off c S u (by omega) (by omega) (by omega) (by omega) rfl hs hsz hc (fun t ht => g.cell (hB t ht) (by simp)))
      exact ri_yes _ _ _ _ i j k m X2 Y2 (some ⟨b, off, none⟩) a2 S.size c S2.size c2 S _ w hs hs2 KR KRR KS KRS KC KRC KP (by omega) (by omega) (by omega) (by omega) KQ

end Go.Proofs.Ythgpjdnppknghaa.Ra
