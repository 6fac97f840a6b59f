/- What laws' rows want of slices of structs of three integers, with a bound. -/
import Derived.Test.YtdcmbjhjfdjdhaaLaw2
namespace Go.Proofs.Ytdcmbjhjfdjdhaa.La
open Go.ChangeShapes Go.WideShapes Go.ChangeAt Go.RowKit Go.Deep Go.Joins
set_option linter.unusedVariables false

/-- The cells of a slice of structs of three integers, by functions of the place. -/
theorem open_ops_b {H : Type} {enc : TypeId × Value → H} {w : World} {base : Nat} {spare : Nat → Bool} {held : Bool} {P : Program} {t e ti : TypeId} {f0 f1 f2 : Field} {fuel : Nat} {v : Value} {x : DataW H × List MemPlace}
    (ht : P.underlying t = some (.slice e)) (he : P.underlying e = some (.struct #[f0, f1, f2])) (hone : oneCellFields P #[f0, f1, f2] = true) (hC : P.cellsOf e = 3)
    (hi : P.underlying ti = some (.int .i64)) (t0 : f0.type = ti) (t1 : f1.type = ti) (t2 : f2.type = ti) (h : DataW.trod enc P w base spare held fuel t [v] = some x) :
    ∃ (a : Option Addr) (b off len cap : Nat) (K N M : Nat → Int), v = .slice a len cap ∧ (0 < len → a = some ⟨b, off, none⟩) ∧ len ≤ maxLen ∧
      ∀ i, i < len → w.cell? ⟨b, off + i * 3, none⟩ = some (.int .i64 (K i)) ∧ w.cell? ⟨b, off + i * 3 + 1, none⟩ = some (.int .i64 (N i)) ∧ w.cell? ⟨b, off + i * 3 + 2, none⟩ = some (.int .i64 (M i)) ∧ N i ≤ 9223372036854775807 := by
  rcases open_slice_fields ht he hone hC h with ⟨hv, _⟩ | ⟨a, len, cap, m, D, Pl, hv, _, hl, hm, hmm, _, hf⟩
  · exact ⟨none, 0, 0, 0, 0, fun _ => 0, fun _ => 0, fun _ => 0, by simpa using hv, fun h => by omega, Nat.zero_le _, fun i hi => by omega⟩
  · have hlm : len ≤ m := by rw [hmm]; split <;> omega
    have each : ∀ i, ∃ k n q : Int, i < len → w.cell? (a.add (i * 3)) = some (.int .i64 k) ∧ w.cell? (a.add (i * 3 + 1)) = some (.int .i64 n) ∧ w.cell? (a.add (i * 3 + 2)) = some (.int .i64 q) ∧ n ≤ 9223372036854775807 := by
      intro i
      by_cases hil : i < len
      · obtain ⟨ys, n, _, _, _, hg⟩ := hf i (by omega)
        obtain ⟨v0, y0, c0, _, r0⟩ := hg 0 f0 rfl
        obtain ⟨v1, y1, c1, _, r1⟩ := hg 1 f1 rfl
        obtain ⟨v2, y2, c2, _, r2⟩ := hg 2 f2 rfl
        rw [t0] at r0
        rw [t1] at r1
        rw [t2] at r2
        obtain ⟨z0, rfl, _⟩ := int_of_trod hi r0
        obtain ⟨z1, rfl, wz1⟩ := int_of_trod hi r1
        obtain ⟨z2, rfl, _⟩ := int_of_trod hi r2
        exact ⟨z0, z1, z2, fun _ => ⟨c0, c1, c2, (i64_of wz1).2⟩⟩
      · exact ⟨0, 0, 0, fun h => absurd h hil⟩
    obtain ⟨K, hK⟩ := Classical.axiomOfChoice each
    obtain ⟨N, hN⟩ := Classical.axiomOfChoice hK
    obtain ⟨M, hM⟩ := Classical.axiomOfChoice hN
    obtain ⟨b, off, spot⟩ := a
    by_cases hl0 : 0 < len
    · have hspot : spot = none := by
        have := (hM 0 hl0).1
        simpa [Addr.add] using World.cell?_spot this
      subst hspot
      refine ⟨some ⟨b, off, none⟩, b, off, len, cap, K, N, M, by simpa using hv, fun _ => rfl, by omega, fun i hi => ?_⟩
      have h := hM i hi
      simp only [add_plain] at h
      exact ⟨h.1, by rw [Nat.add_assoc]; exact h.2.1, by rw [Nat.add_assoc]; exact h.2.2.1, h.2.2.2⟩
    · exact ⟨_, b, off, len, cap, fun _ => 0, fun _ => 0, fun _ => 0, by simpa using hv, fun h => absurd h hl0, by omega, fun i hi => by omega⟩

end Go.Proofs.Ytdcmbjhjfdjdhaa.La
