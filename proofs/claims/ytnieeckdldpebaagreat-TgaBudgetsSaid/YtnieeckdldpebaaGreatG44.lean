/- Texts of one kind, one behind the other: TrJ. -/
import Derived.Test.YtnieeckdldpebaaGreatG43
/- Sides of any text, and Decode's bounds by them (written by wip/gen/trj.py). -/
namespace Go.Proofs.YtnieeckdldpebaaGreat.Tr
open Go.ChangeShapes Go.WideShapes Go.ChangeAt Go.RowKit
open Go.Proofs.YtnieeckdldpebaaGreat.Sc Go.Proofs.YtnieeckdldpebaaGreat.Le Go.Proofs.YtnieeckdldpebaaGreat.Pa Go.Proofs.YtnieeckdldpebaaGreat.Tk Go.Proofs.YtnieeckdldpebaaGreat.Tg Go.Proofs.YtnieeckdldpebaaGreat.Tp Go.Proofs.YtnieeckdldpebaaGreat.Ra
set_option linter.unusedVariables false

/-- How many entries a map has that pixels ask for. -/
def cm (s : ByteArray) : Nat := if pln (bn s 2) = 1 then cnt s else 0
/-- Bounds of what a file asks for. -/
structure TB2 (s : ByteArray) (v : TV) : Prop where
  p : v.p ≤ s.size
  N : v.N ≤ 4 + cm s + 3 * (wd s 12 * wd s 14) + 2
  B : v.B ≤ 4 * (wd s 12 * wd s 14) + 4 * cm s
  w : v.w = wd s 12
  f : v.f ≤ 3
  h : v.h = wd s 14
theorem tb2_of {s : ByteArray} {n : Nat} {KD PL : Nat → Nat} {sz : Nat} (K : KB s KD PL sz) (pk : Bool) (a0 N1 B : Nat) (ok : Prop) [Decidable ok] (hok : ok → a0 ≤ s.size) (hN : wd s 12 * wd s 14 = n) (A : ByteArray) (h1 : N1 ≤ 2 + cm s) (h2 : B ≤ 4 * cm s) :
    TB2 s ⟨if ok then (allZ KD PL sz s pk n a0).f else 1, if ok then (allZ KD PL sz s pk n a0).p else s.size, wd s 12, wd s 14, 1 + (N1 + if ok then (allZ KD PL sz s pk n a0).n else 0), 4 * n + B, A⟩ := by
  refine ⟨?_, ?_, ?_, rfl, ?_, rfl⟩
  rotate_left 3
  · show (if ok then _ else _) ≤ _
    split
    · rename_i h
      have := (allZ_gd K pk n a0 (hok h)).f
      omega
    · decide
  · show (if ok then _ else _) ≤ _
    split
    · rename_i h
      exact (allZ_gd K pk n a0 (hok h)).p
    · exact Nat.le_refl _
  · show 1 + (N1 + if ok then _ else 0) ≤ _
    rw [hN]
    split
    · rename_i h
      have G := allZ_gd K pk n a0 (hok h)
      have g1 := G.n
      have g2 := G.len
      split at g1 <;> omega
    · omega
  · show 4 * n + B ≤ _
    rw [hN]
    omega

/-- Whatever the text is: what Decode does with it, by any ledger, is one and the same. -/
theorem td_any2 (s : ByteArray) (hm : s.size ≤ 1000000) : ∃ v : TV, TD s v ∧ ((s.size < 18 ∨ ∃ K, K < 12 ∧ Ck s K) ∧ v.w = 0 ∧ v.h = 0 ∧ v.N = 1 ∧ v.B = 0 ∧ v.p ≤ s.size ∧ v.f ≠ 0 ∧ v.f ≤ 3 ∨ Hd s ∧ TB2 s v) := by
  by_cases h18 : s.size < 18
  · exact ⟨_, td_short s 0 0 0 ByteArray.empty h18, .inl ⟨.inl h18, rfl, rfl, rfl, rfl, Nat.le_refl _, Nat.one_ne_zero, (by decide : 1 ≤ 3)⟩⟩
  have h18 : 18 ≤ s.size := by omega
  obtain ⟨K, C⟩ := ck_ex s
  by_cases hK : K < 12
  · have k23 := kd_23 K hK
    have hpl : plK K ≤ 17 := by
      obtain rfl | rfl | rfl | rfl | rfl | rfl | rfl | rfl | rfl | rfl | rfl | rfl : K = 0 ∨ K = 1 ∨ K = 2 ∨ K = 3 ∨ K = 4 ∨ K = 5 ∨ K = 6 ∨ K = 7 ∨ K = 8 ∨ K = 9 ∨ K = 10 ∨ K = 11 := by omega
      all_goals decide
    exact ⟨_, td_bad s 0 0 0 ByteArray.empty h18 K C hK, .inl ⟨.inr ⟨K, hK, C⟩, rfl, rfl, rfl, rfl, by show (plK K).toNat ≤ _; omega, by show (kdK K).toNat ≠ 0; omega, by show (kdK K).toNat ≤ 3; omega⟩⟩
  obtain rfl : K = 12 := by have := C.le; omega
  have D := hd_of h18 C
  by_cases hx : pln (bn s 2) = 1
  · obtain ⟨kd, ez, T, EE⟩ := ec_ex (ent s) (D.en (D.m hx))
    exact ⟨_, td_mapped s D _ rfl hx kd ez T EE, .inr ⟨D, tb2_of (kb_map s (fst s) (cnt s)) _ _ _ _ _ id rfl _ (by unfold cm; rw [if_pos hx]; omega) (by unfold cm; rw [if_pos hx]; exact Nat.le_refl _)⟩⟩
  · have hx4 : bn s 2 = 2 ∨ bn s 2 = 10 ∨ bn s 2 = 3 ∨ bn s 2 = 11 := by
      rcases D.x with h2 | h2 | h2 | h2 | h2 | h2
      · exact absurd (by rw [h2]; rfl) hx
      · exact .inl h2
      · exact .inr (.inr (.inl h2))
      · exact absurd (by rw [h2]; rfl) hx
      · exact .inr (.inl h2)
      · exact .inr (.inr (.inr h2))
    cases hmp : mpB s with
    | false =>
      obtain ⟨sz, C, KD, PL, E⟩ := bothr_ex (bn s 0) (bn s 2) (fst s) (cnt s) (ent s) (wd s 12) (wd s 14) (bn s 16) (alp s) false (lft s) (tpp s) 0 s hm hx4 D.d D.a
      exact ⟨_, td_none s D _ rfl hx hmp 0 sz C KD PL E, .inr ⟨D, tb2_of E.2.1 _ _ _ _ _ id rfl _ (by omega) (by omega)⟩⟩
    | true =>
      obtain ⟨sz, C, KD, PL, E⟩ := bothr_ex (bn s 0) (bn s 2) (fst s) (cnt s) (ent s) (wd s 12) (wd s 14) (bn s 16) (alp s) true (lft s) (tpp s) 0 s hm hx4 D.d D.a
      obtain ⟨kd, ez, T, EE⟩ := ec_ex (ent s) (D.en hmp)
      exact ⟨_, td_over s D _ rfl hx hmp 0 sz C KD PL E kd ez T EE, .inr ⟨D, tb2_of E.2.1 _ _ _ _ _ id rfl _ (by omega) (by omega)⟩⟩

theorem sides_bad (s : ByteArray) (hm : s.size ≤ 9223372036854775807) (h : s.size < 18 ∨ ∃ K, K < 12 ∧ Ck s K) (W : World) :
    Calls Tryz.prog 7 #[.string s] W fun e w' => e = .returned (.tuple #[.int .i64 0, .int .i64 0, .int .i64 0]) ∧ W.grownBy w' none := by
  by_cases h18 : s.size < 18
  · exact rsides_bad s 1 s.size (by decide) (fun u => read_short s u h18) W
  · obtain h | ⟨K, hK, C⟩ := h
    · exact absurd h h18
    · have k23 := kd_23 K hK
      exact rsides_bad s (kdK K) (plK K) (by omega) (fun u => read_bad s u (by omega) hm K C hK) W
theorem sides_good (s : ByteArray) (hm : s.size ≤ 9223372036854775807) (D : Hd s) (W : World) :
    Calls Tryz.prog 7 #[.string s] W fun e w' => e = .returned (.tuple #[.int .i64 (wd s 12), .int .i64 (wd s 14), .int .i64 (cm s)]) ∧ W.grownBy w' none := by
  have K := rsides_good s (bn s 0) (if mpB s then 1 else 0) (fst s) (ent s) (bn s 16) (alp s) (bn s 2) (cnt s) (wd s 12) (wd s 14) (lft s) (tpp s) _ rfl (fun u => read_good s u D.s18 hm D.c) W
  have e : (if ((((bn s 2 : Nat) : Int) == 1) || (((bn s 2 : Nat) : Int) == 9)) = true then ((cnt s : Nat) : Int) else 0) = ((cm s : Nat) : Int) := by
    unfold cm
    rcases D.x with h | h | h | h | h | h <;> rw [h] <;> rfl
  rw [e] at K
  exact K

end Go.Proofs.YtnieeckdldpebaaGreat.Tr
