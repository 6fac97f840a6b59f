/- Layer 24: a slice of entries that is handed in (written by wip/gen/idh.py). -/
import Derived.Test.YtajbpcaghmcplaaLaw2
import Derived.Test.YtajbpcaghmcplaaIdI
namespace Go.Proofs.Ytajbpcaghmcplaa.Ie
open Go.ChangeShapes Go.WideShapes Go.ChangeAt Go.RowKit Go.Deep Go.Joins La
set_option linter.unusedVariables false

theorem open_ens {H : Type} {enc : TypeId × Value → H} {w : World} {base : Nat} {spare : Nat → Bool} {held : Bool} {fuel : Nat} {v : Value} {x : DataW H × List MemPlace}
    (h : DataW.trod enc Try.prog w base spare held fuel 53 [v] = some x) :
    ∃ (a : Option Addr) (b off len cap : Nat) (C : Nat → Nat → Int), v = .slice a len cap ∧ (0 < len → a = some ⟨b, off, none⟩) ∧ Id.EnsAt b off len C w := by
  obtain ⟨f0, f1, f2, f3, f4, f5, he, hone, t0, t1, t2, t3, t4, t5⟩ : ∃ f0 f1 f2 f3 f4 f5, Try.prog.underlying 33 = some (.struct #[f0, f1, f2, f3, f4, f5]) ∧ oneCellFields Try.prog #[f0, f1, f2, f3, f4, f5] = true ∧ f0.type = 3 ∧ f1.type = 3 ∧ f2.type = 3 ∧ f3.type = 3 ∧ f4.type = 3 ∧ f5.type = 3 :=
    ⟨_, _, _, _, _, _, Try.underlying33, by kernel_rfl, rfl, rfl, rfl, rfl, rfl, rfl⟩
  have hi : Try.prog.underlying 3 = some (.int .i64) := Try.underlying3
  rcases open_slice_fields Try.underlying53 he hone (by kernel_rfl) h with ⟨hv, _⟩ | ⟨a, len, cap, m, D, Pl, hv, _, hl, hm, hmm, _, hf⟩
  · exact ⟨none, 0, 0, 0, 0, fun _ _ => 0, by simpa using hv, fun h => by omega, fun i hi => by omega⟩
  · have hlm : len ≤ m := by rw [hmm]; split <;> omega
    have each : ∀ i, ∃ F : Nat → Int, i < len → (∀ j, j < 6 → w.cell? (a.add (i * 6 + j)) = some (.int .i64 (F j))) := by
      intro i
      by_cases hil : i < len
      · obtain ⟨ys, n, _, _, _, hg⟩ := hf i (by omega)
        obtain ⟨v0, y0, c0, _, r0⟩ := hg 0 f0 rfl
        obtain ⟨v1, y1, c1, _, r1⟩ := hg 1 f1 rfl
        obtain ⟨v2, y2, c2, _, r2⟩ := hg 2 f2 rfl
        obtain ⟨v3, y3, c3, _, r3⟩ := hg 3 f3 rfl
        obtain ⟨v4, y4, c4, _, r4⟩ := hg 4 f4 rfl
        obtain ⟨v5, y5, c5, _, r5⟩ := hg 5 f5 rfl
        rw [t0] at r0
        rw [t1] at r1
        rw [t2] at r2
        rw [t3] at r3
        rw [t4] at r4
        rw [t5] at r5
        obtain ⟨z0, rfl, w0⟩ := int_of_trod hi r0
        obtain ⟨z1, rfl, w1⟩ := int_of_trod hi r1
        obtain ⟨z2, rfl, w2⟩ := int_of_trod hi r2
        obtain ⟨z3, rfl, w3⟩ := int_of_trod hi r3
        obtain ⟨z4, rfl, w4⟩ := int_of_trod hi r4
        obtain ⟨z5, rfl, w5⟩ := int_of_trod hi r5
        refine ⟨fun j => if j = 0 then z0 else if j = 1 then z1 else if j = 2 then z2 else if j = 3 then z3 else if j = 4 then z4 else z5, fun _ j hj => ?_⟩
        obtain rfl | rfl | rfl | rfl | rfl | rfl : j = 0 ∨ j = 1 ∨ j = 2 ∨ j = 3 ∨ j = 4 ∨ j = 5 := by omega
        · exact c0
        · exact c1
        · exact c2
        · exact c3
        · exact c4
        · exact c5
      · exact ⟨fun _ => 0, fun h => absurd h hil⟩
    obtain ⟨C, hC⟩ := Classical.axiomOfChoice each
    obtain ⟨b, off, spot⟩ := a
    by_cases hl0 : 0 < len
    · have hspot : spot = none := by
        have := (hC 0 hl0) 0 (by decide)
        simpa [Addr.add] using World.cell?_spot this
      subst hspot
      refine ⟨some ⟨b, off, none⟩, b, off, len, cap, C, by simpa using hv, fun _ => rfl, fun i hi j hj => ?_⟩
      have h := hC i hi j hj
      simp only [add_plain] at h
      rw [Nat.add_assoc]
      exact h
    · exact ⟨_, b, off, len, cap, C, by simpa using hv, fun h => absurd h hl0, fun i hi => by omega⟩

end Go.Proofs.Ytajbpcaghmcplaa.Ie
