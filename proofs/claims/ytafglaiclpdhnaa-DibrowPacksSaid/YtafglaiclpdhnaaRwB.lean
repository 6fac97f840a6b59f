/- Layer 21: a list of integers, opened. -/
import Derived.Test.YtafglaiclpdhnaaRwA
import Derived.Test.YtafglaiclpdhnaaLaw2
namespace Go.Proofs.Ytafglaiclpdhnaa.Rw
open Go.ChangeShapes Go.WideShapes Go.ChangeAt Go.RowKit Go.Deep Go.Joins
set_option linter.unusedVariables false

theorem open_list {H : Type} {enc : TypeId × Value → H} {w : World} {base : Nat} {spare : Nat → Bool} {held : Bool} {fuel : Nat} {v : Value} {x : DataW H × List MemPlace}
    (h : DataW.trod enc Try.prog w base spare held fuel 22 [v] = some x) :
    ∃ (a : Option Addr) (b off len cap : Nat) (Z : Nat → Int), v = .slice a len cap ∧ (0 < len → a = some ⟨b, off, none⟩) ∧ len ≤ 9223372036854775807 ∧ ∀ i, i < len → w.cell? ⟨b, off + i, none⟩ = some (.int .i64 (Z i)) := by
  rcases open_ints Try.underlying22 Try.underlying3 (by kernel_rfl) h with ⟨hv, _⟩ | ⟨a, len, cap, zs, hv, _, hl, hm, hz, _, hcell, hwf⟩
  · exact ⟨none, 0, 0, 0, 0, fun _ => 0, by simpa using hv, fun h => by omega, Nat.zero_le _, fun i hi => by omega⟩
  · have hlz : len ≤ zs.length := by rw [hz]; split <;> omega
    have hmx : len ≤ 9223372036854775807 := by unfold maxLen at hm; omega
    obtain ⟨b, off, spot⟩ := a
    by_cases hl0 : 0 < len
    · have hspot : spot = none := by simpa [Addr.add] using World.cell?_spot (hcell 0 (by omega))
      subst hspot
      refine ⟨some ⟨b, off, none⟩, b, off, len, cap, fun i => zs.getD i 0, by simpa using hv, fun _ => rfl, hmx, fun i hi => ?_⟩
      have h := hcell i (by omega)
      rw [add_plain] at h
      exact h
    · exact ⟨_, b, off, len, cap, fun _ => 0, by simpa using hv, fun h => absurd h hl0, hmx, fun i hi => by omega⟩
end Go.Proofs.Ytafglaiclpdhnaa.Rw
