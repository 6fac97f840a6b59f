/- What rows of laws want of a slice of colours: each channel a number, by functions of the place. -/
import Derived.Test.YtljbhahdaepecaaLaw2
import Derived.Test.YtljbhahdaepecaaPalF
namespace Go.Proofs.Ytljbhahdaepecaa.Pa
open Go.ChangeShapes Go.WideShapes Go.ChangeAt Go.RowKit Go.Deep Go.Joins La
set_option linter.unusedVariables false

theorem open_cols {H : Type} {enc : TypeId × Value → H} {w : World} {base : Nat} {spare : Nat → Bool} {held : Bool} {fuel : Nat} {v : Value} {x : DataW H × List MemPlace}
    (h : DataW.trod enc Try.prog w base spare held fuel 30 [v] = some x) :
    ∃ (a : Option Addr) (b off len cap : Nat) (C : Nat → Nat → Int), v = .slice a len cap ∧ (0 < len → a = some ⟨b, off, none⟩) ∧ len ≤ 9223372036854775807 ∧ ColsAt b off len C w ∧ ∀ i, i < len → Col (C i) := by
  obtain ⟨f0, f1, f2, f3, he, hone, t0, t1, t2, t3⟩ : ∃ f0 f1 f2 f3, Try.prog.underlying 24 = some (.struct #[f0, f1, f2, f3]) ∧ oneCellFields Try.prog #[f0, f1, f2, f3] = true ∧ f0.type = 5 ∧ f1.type = 5 ∧ f2.type = 5 ∧ f3.type = 5 :=
    ⟨_, _, _, _, Try.underlying24, by kernel_rfl, rfl, rfl, rfl, rfl⟩
  have hi : Try.prog.underlying 5 = some (.int .u8) := Try.underlying5
  rcases open_slice_fields Try.underlying30 he hone (by kernel_rfl) h with ⟨hv, _⟩ | ⟨a, len, cap, m, D, Pl, hv, _, hl, hm, hmm, _, hf⟩
  · exact ⟨none, 0, 0, 0, 0, fun _ _ => 0, by simpa using hv, fun h => by omega, by decide, fun i hi => by omega, fun i hi => by omega⟩
  · have hlm : len ≤ m := by rw [hmm]; split <;> omega
    have each : ∀ i, ∃ F : Nat → Int, i < len → (∀ j, j < 4 → w.cell? (a.add (i * 4 + j)) = some (.int .u8 (F j))) ∧ Col F := by
      intro i
      by_cases hil : i < len
      · obtain ⟨ys, n, _, _, _, hg⟩ := hf i (by omega)
        obtain ⟨v0, y0, c0, _, r0⟩ := hg 0 f0 rfl
        obtain ⟨v1, y1, c1, _, r1⟩ := hg 1 f1 rfl
        obtain ⟨v2, y2, c2, _, r2⟩ := hg 2 f2 rfl
        obtain ⟨v3, y3, c3, _, r3⟩ := hg 3 f3 rfl
        rw [t0] at r0
        rw [t1] at r1
        rw [t2] at r2
        rw [t3] at r3
        obtain ⟨z0, rfl, w0⟩ := int_of_trod hi r0
        obtain ⟨z1, rfl, w1⟩ := int_of_trod hi r1
        obtain ⟨z2, rfl, w2⟩ := int_of_trod hi r2
        obtain ⟨z3, rfl, w3⟩ := int_of_trod hi r3
        refine ⟨fun j => if j = 0 then z0 else if j = 1 then z1 else if j = 2 then z2 else z3, fun _ => ⟨fun j hj => ?_, fun j hj => ?_⟩⟩
        · obtain rfl | rfl | rfl | rfl : j = 0 ∨ j = 1 ∨ j = 2 ∨ j = 3 := by omega
          · exact c0
          · exact c1
          · exact c2
          · exact c3
        · obtain rfl | rfl | rfl | rfl : j = 0 ∨ j = 1 ∨ j = 2 ∨ j = 3 := by omega
          · exact u8_of w0
          · exact u8_of w1
          · exact u8_of w2
          · exact u8_of w3
      · exact ⟨fun _ => 0, fun h => absurd h hil⟩
    obtain ⟨C, hC⟩ := Classical.axiomOfChoice each
    have hmx : len ≤ 9223372036854775807 := by unfold maxLen at hm; omega
    obtain ⟨b, off, spot⟩ := a
    by_cases hl0 : 0 < len
    · have hspot : spot = none := by
        have := (hC 0 hl0).1 0 (by decide)
        simpa [Addr.add] using World.cell?_spot this
      subst hspot
      refine ⟨some ⟨b, off, none⟩, b, off, len, cap, C, by simpa using hv, fun _ => rfl, hmx, fun i hi j hj => ?_, fun i hi => (hC i hi).2⟩
      have h := (hC i hi).1 j hj
      simp only [add_plain] at h
      rw [Nat.add_assoc]
      exact h
    · exact ⟨_, b, off, len, cap, C, by simpa using hv, fun h => absurd h hl0, hmx, fun i hi => by omega, fun i hi => by omega⟩

end Go.Proofs.Ytljbhahdaepecaa.Pa
