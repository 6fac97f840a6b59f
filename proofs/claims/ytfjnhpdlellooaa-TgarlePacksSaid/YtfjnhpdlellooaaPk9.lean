/- Layer 18: the law, whatever list of texts it is handed. -/
import Derived.Test.YtfjnhpdlellooaaPk8
import Derived.Test.YtfjnhpdlellooaaLaw
import Derived.Deep.Strs
namespace Go.Proofs.Ytfjnhpdlellooaa.Pk
open Go.ChangeShapes Go.WideShapes Go.ChangeAt Go.RowKit Go.Deep
set_option linter.unusedVariables false

theorem open_texts {H : Type} {enc : TypeId × Value → H} {w : World} {base : Nat} {spare : Nat → Bool} {held : Bool} {fuel : Nat} {v : Value} {x : DataW H × List MemPlace}
    (h : DataW.trod enc Try.prog w base spare held fuel 22 [v] = some x) :
    ∃ (a : Option Addr) (b off len cap : Nat) (L : Nat → ByteArray), v = .slice a len cap ∧ (0 < len → a = some ⟨b, off, none⟩) ∧ len ≤ cap ∧ cap ≤ 9223372036854775807 ∧ StrAt b off 0 len L w ∧ ∀ k, k < len → (L k).size ≤ 9223372036854775807 := by
  rcases open_strs Try.underlying22 Try.underlying9 (by kernel_rfl) h with ⟨hv, _⟩ | ⟨a, len, cap, m, Sx, hv, _, hl, hm, hmm, _, hc⟩
  · exact ⟨none, 0, 0, 0, 0, fun _ => ⟨#[]⟩, by simpa using hv, fun h => by omega, Nat.zero_le _, by decide, fun i hi => by omega, fun i hi => by omega⟩
  · have hlm : len ≤ m := by rw [hmm]; split <;> omega
    have hmx : cap ≤ 9223372036854775807 := by unfold maxLen at hm; omega
    obtain ⟨b, off, spot⟩ := a
    by_cases hl0 : 0 < len
    · have hspot : spot = none := by simpa [Addr.add] using World.cell?_spot (hc 0 (by omega)).1
      subst hspot
      refine ⟨some ⟨b, off, none⟩, b, off, len, cap, Sx, by simpa using hv, fun _ => rfl, hl, hmx, fun i hi => ?_, fun i hi => ?_⟩
      · have h := (hc i (by omega)).1
        rw [add_plain] at h
        rw [Nat.zero_add]
        exact h
      · have := (hc i (by omega)).2
        unfold maxLen at this
        omega
    · exact ⟨_, b, off, len, cap, Sx, by simpa using hv, fun h => absurd h hl0, hl, hmx, fun i hi => by omega, fun i hi => by omega⟩

theorem law_any (a : Option Addr) (b off len cap : Nat) (L : Nat → ByteArray) (W : World) (ha : 0 < len → a = some ⟨b, off, none⟩) (hl : len ≤ cap) (hc : cap ≤ 9223372036854775807) (hS : StrAt b off 0 len L W) (hm : ∀ k, k < len → (L k).size ≤ 9223372036854775807) :
    Calls Try.prog 3 #[.slice a len cap] W fun e w' => e = .returned (.bool true) ∧ W.grownBy w' none := by
  by_cases h3 : 300 < len
  · exact law_far a len cap W h3
  · by_cases h0 : 0 < len
    · rw [ha h0]
      exact law_some b off len cap L W h0 (by omega) hl hc hm hS
    · obtain rfl : len = 0 := by omega
      exact law_none a cap W

end Go.Proofs.Ytfjnhpdlellooaa.Pk
