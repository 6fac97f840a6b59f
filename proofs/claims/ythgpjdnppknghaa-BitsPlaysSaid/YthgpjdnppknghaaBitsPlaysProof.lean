/- Proved: for every text, either order of bits and every row of counts the law BitsPlays returns true: any counts of bits, with leaps to the next byte between, are those of the bytes, in order; a byte is read as soon as a bit of it is asked for. No condition. -/
import Derived.Test.YthgpjdnppknghaaLaw2
import Derived.ChangeSlices
import Derived.Test.YthgpjdnppknghaaBitW
namespace Go.Proofs.Ythgpjdnppknghaa.bitsPlays
open Go.ChangeShapes Go.WideShapes Go.ChangeAt Go.RowKit Go.Deep Go.Joins La Bi
set_option linter.unusedVariables false

theorem cells3 : Try.prog.cellsOf 3 = 1 := by kernel_rfl

set_option maxRecDepth 100000 in
theorem plays_far (s : ByteArray) (low : Bool) (a0 : Option Addr) (len cap : Nat) (W : World) (h : 100 < s.size) (hs : s.size ≤ 9223372036854775807) :
    Calls Try.prog 3 #[.string s, .bool low, .slice a0 len cap] W fun e w' => e = .returned (.bool true) ∧ W.grownBy w' none := by
  go_enter Try.func3, Try.ntmps3
  go_wp2_with fail
  refine (awake_calls _).mono ?_
  rintro e w9 ⟨rfl, g9⟩
  have G9 := Lib.hid g9
  clear g9
  go_wp2
  go_ret
  exact ⟨rfl, G9.out⟩

theorem plays_any (s : ByteArray) (low : Bool) (a0 : Option Addr) (b off len cap : Nat) (zs : List Int) (W : World) (hs : s.size ≤ 9223372036854775807) (ha : 0 < len → a0 = some ⟨b, off, none⟩) (hb : len ≤ 9223372036854775807) (hc : ∀ j, j < len → W.cell? ⟨b, off + j, none⟩ = some (.int .i64 (zs.getD j 0))) :
    Calls Try.prog 3 #[.string s, .bool low, .slice a0 len cap] W fun e w' => e = .returned (.bool true) ∧ W.grownBy w' none := by
  by_cases h : 100 < s.size
  · exact plays_far s low a0 len cap W h hs
  · exact plays_walk s low a0 b off len cap zs W (by omega) ha hb hc

set_option maxRecDepth 100000 in
theorem lifted (os : Os) (started : os.Started) (H : Type) (enc : TypeId × Value → H) :
    ReturnsInHanded {} Try.checked os 3 .any (Rows.bitsPlaysSpec.pre6 enc Try.prog Try.f3 Rows.bitsPlaysRow.domain false) (Rows.bitsPlaysSpec.post enc Try.prog Try.f3 false true false false) := by
  refine returnsInHanded_of_change (C := Try.checked) own started (by kernel_rfl) Try.func3
    (ChangeSpec.witness6 (enc := enc) (C := Try.checked) false ⟨#[], #[.string ByteArray.empty, .bool false, .slice none 0 0], []⟩ 8 (by kernel_rfl) (by kernel_rfl) (by kernel_rfl) (by kernel_rfl)) ?_
  intro W base args ds gs before hval0 hW hcnd _
  have hval : ∀ (j : Nat) t v, Try.f3.params[j]? = some t → args[j]? = some v → Value.okWide Try.prog W .any base t v := hval0
  have hW' := hW
  obtain ⟨p, q, hA0, hV, hbp, hfz, hnd⟩ := hW
  have hA : DataW.TrodAll enc Try.prog W 0 (fun _ => true) true Try.f3.params.toList args.toList ds p := hA0
  have hAk := hA
  rw [Try.params3] at hA hval
  obtain ⟨v0, vs0, d0, ds0, p0, q0, hargs, rfl, rfl, h0, r0⟩ := trodAll_cons hA
  obtain ⟨v1, vs1, d1, ds1, p1, q1, rfl, rfl, rfl, h1, r1⟩ := trodAll_cons r0
  obtain ⟨v2, vs2, d2, ds2, p2, q2, rfl, rfl, rfl, h2, r2⟩ := trodAll_cons r1
  obtain ⟨rfl, rfl, rfl⟩ := trodAll_nil r2
  obtain rfl : args = #[v0, v1, v2] := by cases args; simp_all
  obtain ⟨rfl, rfl⟩ := trodVars_none hV
  obtain ⟨s, rfl, _, _, hs⟩ := Go.ChangeMaps.open_string Try.underlying9 (hval 0 9 v0 rfl rfl) h0
  obtain ⟨low, rfl, _, _⟩ := open_bool Try.underlying4 (hval 1 4 v1 rfl rfl) h1
  obtain ⟨a0, len, cap, rfl⟩ := okWide_slice Try.underlying22 (hval 2 22 v2 rfl rfl)
  obtain ⟨fuel, hf⟩ := h2
  have fin : Calls Try.prog 3 #[.string s, .bool low, .slice a0 len cap] W fun e w' => e = .returned (.bool true) ∧ W.grownBy w' none := by
    rcases open_ints Try.underlying22 Try.underlying3 cells3 hf with ⟨hcs, hx⟩ | ⟨a, len', cap', zs, hcs, _, hl, hm, hz, hx, hcell, hwz⟩
    · simp [Value.cells] at hcs
      obtain ⟨rfl, rfl, rfl⟩ := hcs
      exact plays_any s low none 0 0 0 0 [] W (by unfold maxLen at hs; omega) (fun h => by omega) (by omega) (fun j hj => by omega)
    · simp [Value.cells] at hcs
      obtain ⟨rfl, rfl, rfl⟩ := hcs
      simp only [if_true] at hz
      by_cases hl0 : len = 0
      · subst hl0
        exact plays_any s low (some a) 0 0 0 cap [] W (by unfold maxLen at hs; omega) (fun h => by omega) (by omega) (fun j hj => by omega)
      · obtain ⟨b, off, spot⟩ := a
        have hspot : spot = none := by simpa [Addr.add] using World.cell?_spot (hcell 0 (by omega))
        subst hspot
        refine plays_any s low _ b off len cap zs W (by unfold maxLen at hs; omega) (fun _ => rfl) (by unfold maxLen at hm; omega) (fun j hj => ?_)
        have h := hcell j (by omega)
        rw [add_plain] at h
        rw [h]
  refine fin.mono fun e W' ⟨he, hg⟩ => ?_
  subst he
  exact ⟨_, rfl, law_post laidOut rfl (by kernel_rfl) Try.underlying4 (by rw [Try.params3]; intro t ht; simp at ht; rcases ht with rfl | rfl | rfl <;> exact ⟨by kernel_rfl, of_decide_eq_true (by kernel_rfl)⟩) hW' hAk (by rw [hbp]; simp) rfl rfl rfl rfl hg⟩

theorem over : Rows.bitsPlaysRow.holds Try.pinned (OpenSpec.ofChange Rows.bitsPlaysSpec) :=
  OpenClaim.holds_of_wide 3 Try.f3 rfl rfl rfl rfl rfl rfl rfl ⟨rfl, rfl, rfl, rfl, rfl⟩ rfl rfl rfl rfl rfl (by kernel_rfl) Try.func3 (by kernel_rfl)
    (of_decide_eq_true (by kernel_rfl)) (by unfold Func.isWrapper; first | (rw [if_pos (by decide +kernel)]; kernel_rfl) | (rw [if_neg (by decide +kernel)]; exact ⟨rfl, rfl⟩))
    (fun os started H enc _ => lifted os started H enc)

theorem proved : Rows.BitsPlaysSaid :=
  over
#print axioms proved
end Go.Proofs.Ythgpjdnppknghaa.bitsPlays
