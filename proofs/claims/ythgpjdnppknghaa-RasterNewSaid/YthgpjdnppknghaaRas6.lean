/- The law RasterNew, of any arguments. -/
import Derived.Test.YthgpjdnppknghaaRas5
namespace Go.Proofs.Ythgpjdnppknghaa.Ra
open Go.ChangeShapes Go.WideShapes Go.ChangeAt Go.RowKit
open Go.Proofs.Ythgpjdnppknghaa.Le Go.Proofs.Ythgpjdnppknghaa.Bu Go.Proofs.Ythgpjdnppknghaa.Nu
set_option linter.unusedVariables false

theorem pos_lt {p a : Int} (h : 1 ≤ a) : pos p < a ↔ p < a := by unfold pos; split <;> omega
theorem sides_bad (p q m s a b : Int) (a1 : 1 ≤ a) (b1 : 1 ≤ b) (h : p < a ∨ q < b) :
    ((St.new p q m s).sides a b).2 = false ∧ ((((St.new p q m s).sides a b).1.ls.br != 0) = true) ∧ ((St.new p q m s).sides a b).1.ls.by_ = 0 := by
  unfold St.sides
  rw [if_neg (show ¬ (St.new p q m s).r ≠ 0 from fun h => h rfl)]
  by_cases hp : p < a
  · rw [if_pos (show a < 1 ∨ (St.new p q m s).w < a from Or.inr ((pos_lt a1).2 hp))]
    exact ⟨rfl, rfl, rfl⟩
  · have n1 : ¬ (a < 1 ∨ (St.new p q m s).w < a) := by
      rintro (h | h)
      · omega
      · exact hp ((pos_lt a1).1 h)
    rw [if_neg n1, if_pos (show b < 1 ∨ (St.new p q m s).h < b from Or.inr ((pos_lt b1).2 (by omega)))]
    exact ⟨rfl, rfl, rfl⟩
theorem sides_ok (p q m s a b : Int) (a1 : 1 ≤ a) (b1 : 1 ≤ b) (hp : a ≤ p) (hq : b ≤ q) : (St.new p q m s).sides a b = (St.new p q m s, true) := by
  unfold St.sides
  have n1 : ¬ (a < 1 ∨ (St.new p q m s).w < a) := by
    rintro (h | h)
    · omega
    · have := (pos_lt a1).1 h; omega
  have n2 : ¬ (b < 1 ∨ (St.new p q m s).h < b) := by
    rintro (h | h)
    · omega
    · have := (pos_lt b1).1 h; omega
  rw [if_neg (show ¬ (St.new p q m s).r ≠ 0 from fun h => h rfl), if_neg n1, if_neg n2]
theorem take_bad (p q m s n : Int) (n1 : 1 ≤ n) (h : m < n) : ((St.new p q m s).take n).2 = false ∧ ((((St.new p q m s).take n).1.ls.br != 0) = true) ∧ ((St.new p q m s).take n).1.ls.by_ = 0 := by
  unfold St.take
  have y : n < 0 ∨ (St.new p q m s).b - (St.new p q m s).by_ < n := Or.inr (by
    have := (pos_lt n1).2 h
    show pos m - 0 < n
    omega)
  rw [if_neg (show ¬ (St.new p q m s).r ≠ 0 from fun h => h rfl), if_pos y]
  exact ⟨rfl, rfl, rfl⟩
theorem take_ok (p q m s n : Int) (n1 : 1 ≤ n) (h : n ≤ m) : ((St.new p q m s).take n).2 = true ∧ ((St.new p q m s).take n).1.ls.by_ = n := by
  unfold St.take
  have y : ¬ (n < 0 ∨ (St.new p q m s).b - (St.new p q m s).by_ < n) := by
    rintro (h' | h')
    · omega
    · have h2 : pos m - 0 < n := h'
      have := (pos_lt (p := m) n1).1 (by omega)
      omega
  rw [if_neg (show ¬ (St.new p q m s).r ≠ 0 from fun h => h rfl), if_neg y]
  exact ⟨rfl, by show (0 : Int) + n = n; omega⟩

theorem rn_any (p q r0 s a b : Int) (w : World) (p1 : p ≤ 9223372036854775807) (q1 : q ≤ 9223372036854775807) (r1 : r0 ≤ 9223372036854775807) (s1 : s ≤ 9223372036854775807) :
    Calls Try.prog 5 #[.agg #[.int .i64 p, .int .i64 q, .int .i64 r0, .int .i64 s], .int .i64 a, .int .i64 b] w fun e w' => e = .returned (.bool true) ∧ w.grownBy w' none := by
  obtain ⟨m, hm⟩ : ∃ m, (65536 < r0 ∧ m = 65536) ∨ (r0 ≤ 65536 ∧ m = r0) := by
    by_cases h : 65536 < r0
    · exact ⟨65536, .inl ⟨h, rfl⟩⟩
    · exact ⟨r0, .inr ⟨by omega, rfl⟩⟩
  have m1 : m ≤ 9223372036854775807 := by omega
  have KN := Lib.hid (fun w => new_calls p q m s w)
  have ok : (St.new p q m s).Ok := St.new_ok p1 q1 m1 s1
  by_cases h1 : a < 1
  · rcases hm with ⟨hr, hm⟩ | ⟨hr, hm⟩
    · exact rn_cap_bad1 p q r0 s m a b _ w hm hr h1 KN rfl
    · exact rn_all_bad1 p q r0 s m a b _ w hm hr h1 KN rfl
  by_cases h2 : 16384 < a
  · rcases hm with ⟨hr, hm⟩ | ⟨hr, hm⟩
    · exact rn_cap_bad2 p q r0 s m a b _ w hm hr h2 KN rfl
    · exact rn_all_bad2 p q r0 s m a b _ w hm hr h2 KN rfl
  by_cases h3 : b < 1
  · rcases hm with ⟨hr, hm⟩ | ⟨hr, hm⟩
    · exact rn_cap_bad3 p q r0 s m a b _ w hm hr (by omega) (by omega) h3 KN rfl
    · exact rn_all_bad3 p q r0 s m a b _ w hm hr (by omega) (by omega) h3 KN rfl
  by_cases h4 : 16384 < b
  · rcases hm with ⟨hr, hm⟩ | ⟨hr, hm⟩
    · exact rn_cap_bad4 p q r0 s m a b _ w hm hr (by omega) (by omega) h4 KN rfl
    · exact rn_all_bad4 p q r0 s m a b _ w hm hr (by omega) (by omega) h4 KN rfl
  obtain ⟨i, rfl⟩ : ∃ i : Nat, a = i := ⟨a.toNat, by omega⟩
  obtain ⟨j, rfl⟩ : ∃ j : Nat, b = j := ⟨b.toNat, by omega⟩
  have i1 : 1 ≤ i := by omega
  have i2 : i ≤ 16384 := by omega
  have j1 : 1 ≤ j := by omega
  have j2 : j ≤ 16384 := by omega
  have hle : i * j ≤ 16384 * 16384 := Nat.mul_le_mul i2 j2
  have hge : 1 ≤ i * j := Nat.mul_pos i1 j1
  have hmul : 4 * (i : Int) * (j : Int) = ((4 * (i * j) : Nat) : Int) := by rw [Int.natCast_mul, Int.natCast_mul, ← Int.mul_assoc]; rfl
  by_cases hs : p < i ∨ q < j
  · obtain ⟨s2, s3, s4⟩ := sides_bad p q m s i j (by omega) (by omega) hs
    have KR := Lib.hid (fun l w h => new_sides l (St.new p q m s) i j w h i1 i2 j1 j2 s2)
    by_cases hp : p < i
    · rcases hm with ⟨hr, hm⟩ | ⟨hr, hm⟩
      · exact rn_cap_w p q r0 s m i j _ _ _ w hm hr i1 i2 j1 j2 hmul (by omega) hp KN s3 s4 KR
      · exact rn_all_w p q r0 s m i j _ _ _ w hm hr i1 i2 j1 j2 hmul (by omega) hp KN s3 s4 KR
    · rcases hm with ⟨hr, hm⟩ | ⟨hr, hm⟩
      · exact rn_cap_h p q r0 s m i j _ _ _ w hm hr i1 i2 j1 j2 hmul (by omega) (by omega) (by omega) KN s3 s4 KR
      · exact rn_all_h p q r0 s m i j _ _ _ w hm hr i1 i2 j1 j2 hmul (by omega) (by omega) (by omega) KN s3 s4 KR
  · have ho := sides_ok p q m s i j (by omega) (by omega) (by omega) (by omega)
    by_cases hn : m < ((4 * (i * j) : Nat) : Int)
    · obtain ⟨s2, s3, s4⟩ := take_bad p q m s ((4 * (i * j) : Nat) : Int) (by omega) hn
      have KR := Lib.hid (fun l w h => new_spent l (St.new p q m s) i j w h ok i1 i2 j1 j2 ho s2)
      rcases hm with ⟨hr, hm⟩ | ⟨hr, hm⟩
      · exact rn_cap_n p q r0 s m i j _ _ _ w hm hr i1 i2 j1 j2 hmul (by omega) (by omega) (by omega) hn KN s3 s4 KR
      · exact rn_all_n p q r0 s m i j _ _ _ w hm hr i1 i2 j1 j2 hmul (by omega) (by omega) (by omega) hn KN s3 s4 KR
    · obtain ⟨s2, s4⟩ := take_ok p q m s ((4 * (i * j) : Nat) : Int) (by omega) (by omega)
      have KR := Lib.hid (fun l w h => new_yes l (St.new p q m s) i j w h ok i1 i2 j1 j2 ho s2)
      rcases hm with ⟨hr, hm⟩ | ⟨hr, hm⟩
      · exact rn_cap_yes p q r0 s m i j _ _ _ w hm hr i1 i2 j1 j2 hmul (by omega) (by omega) (by omega) (by omega) KN s4 KR
      · exact rn_all_yes p q r0 s m i j _ _ _ w hm hr i1 i2 j1 j2 hmul (by omega) (by omega) (by omega) (by omega) KN s4 KR

end Go.Proofs.Ythgpjdnppknghaa.Ra
