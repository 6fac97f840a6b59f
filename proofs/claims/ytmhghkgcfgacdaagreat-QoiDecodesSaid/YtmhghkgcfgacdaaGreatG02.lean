/- Texts of one kind, one behind the other: Law2. -/
import Derived.ChangeSlices
import Derived.Test.YtmhghkgcfgacdaaGreatG01
/- What laws' rows want of slices of bytes: each byte a number, by a function of the place. -/
namespace Go.Proofs.YtmhghkgcfgacdaaGreat.La
open Go.ChangeShapes Go.WideShapes Go.ChangeAt Go.RowKit Go.Deep Go.Joins
set_option linter.unusedVariables false

theorem i64_of {z : Int} (h : (Lit.int .i64 z).wf = true) : -9223372036854775808 ≤ z ∧ z ≤ 9223372036854775807 := by
  have h1 : IntKind.i64.min = -9223372036854775808 := rfl
  have h2 : IntKind.i64.max = 9223372036854775807 := rfl
  simp only [Lit.wf, Bool.and_eq_true, decide_eq_true_eq] at h
  omega
theorem u8_of {z : Int} (h : (Lit.int .u8 z).wf = true) : 0 ≤ z ∧ z ≤ 255 := by
  have h1 : IntKind.u8.min = 0 := rfl
  have h2 : IntKind.u8.max = 255 := rfl
  simp only [Lit.wf, Bool.and_eq_true, decide_eq_true_eq] at h
  omega

/-- The bytes of a slice, by a function of the place. -/
theorem open_bytes {H : Type} {enc : TypeId × Value → H} {w : World} {base : Nat} {spare : Nat → Bool} {held : Bool} {P : Program} {t e : TypeId} {fuel : Nat} {v : Value} {x : DataW H × List MemPlace}
    (ht : P.underlying t = some (.slice e)) (he : P.underlying e = some (.int .u8)) (hC : P.cellsOf e = 1) (h : DataW.trod enc P w base spare held fuel t [v] = some x) :
    ∃ (a : Option Addr) (b off len cap : Nat) (Z : Nat → Nat), v = .slice a len cap ∧ (0 < len → a = some ⟨b, off, none⟩) ∧ len ≤ 9223372036854775807 ∧
      ∀ i, i < len → w.cell? ⟨b, off + i, none⟩ = some (.int .u8 (Z i : Int)) ∧ Z i ≤ 255 := by
  rcases open_ints ht he hC h with ⟨hv, _⟩ | ⟨a, len, cap, zs, hv, _, hl, hm, hz, _, hcell, hwf⟩
  · exact ⟨none, 0, 0, 0, 0, fun _ => 0, by simpa using hv, fun h => by omega, Nat.zero_le _, fun i hi => by omega⟩
  · have hlz : len ≤ zs.length := by rw [hz]; split <;> omega
    have hmx : len ≤ 9223372036854775807 := by unfold maxLen at hm; omega
    obtain ⟨b, off, spot⟩ := a
    by_cases hl0 : 0 < len
    · have hspot : spot = none := by simpa [Addr.add] using World.cell?_spot (hcell 0 (by omega))
      subst hspot
      have hb : ∀ i, i < len → 0 ≤ zs.getD i 0 ∧ zs.getD i 0 ≤ 255 := fun i hi => by
        have hmem : zs.getD i 0 ∈ zs := by
          simp only [List.getD, List.getElem?_eq_getElem (show i < zs.length by omega), Option.getD_some]
          exact List.getElem_mem _
        exact u8_of (hwf _ hmem)
      refine ⟨some ⟨b, off, none⟩, b, off, len, cap, fun i => (zs.getD i 0).toNat, by simpa using hv, fun _ => rfl, hmx, fun i hi => ⟨?_, ?_⟩⟩
      · have h := hcell i (by omega)
        rw [add_plain] at h
        have h2 := (hb i hi).1
        rw [h, show (((zs.getD i 0).toNat : Nat) : Int) = zs.getD i 0 from by omega]
      · have h2 := hb i hi
        show (zs.getD i 0).toNat ≤ 255
        omega
    · exact ⟨_, b, off, len, cap, fun _ => 0, by simpa using hv, fun h => absurd h hl0, hmx, fun i hi => by omega⟩
end Go.Proofs.YtmhghkgcfgacdaaGreat.La
