/- Proved: for every two images and every place the law RasterImages returns true: an image is right, has its pixels, is cloned, and is the same as another one, just as the document says. No condition. -/
import Derived.Test.YthgpjdnppknghaaLaw2
import Derived.ChangeSlices
import Derived.Test.YthgpjdnppknghaaRim8
namespace Go.Proofs.Ythgpjdnppknghaa.rasterImages
open Go.ChangeShapes Go.WideShapes Go.ChangeAt Go.RowKit Go.Deep Go.Joins La Ra
set_option linter.unusedVariables false

/-- The bytes of a slice, as a text. -/
theorem open_text {H : Type} {enc : TypeId × Value → H} {w : World} {base : Nat} {spare : Nat → Bool} {held : Bool} {P : Program} {t e : TypeId} {fuel : Nat} {v : Value} {x : DataW H × List MemPlace}
    (ht : P.underlying t = some (.slice e)) (he : P.underlying e = some (.int .u8)) (hC : P.cellsOf e = 1) (h : DataW.trod enc P w base spare held fuel t [v] = some x) :
    ∃ (a : Option Addr) (cap : Nat) (S : ByteArray), v = .slice a S.size cap ∧ Bx a S w ∧ S.size ≤ cap ∧ cap ≤ 9223372036854775807 ∧ (a = none → cap = 0 ∧ S.size = 0) := by
  rcases open_ints ht he hC h with ⟨hv, _⟩ | ⟨a, len, cap, zs, hv, _, hl, hm, hz, _, hcell, hwf⟩
  · exact ⟨none, 0, ByteArray.empty, by simpa using hv, .inl rfl, Nat.le_refl _, Nat.zero_le _, fun _ => ⟨rfl, rfl⟩⟩
  · have hlz : len ≤ zs.length := by rw [hz]; split <;> omega
    obtain ⟨S, hS⟩ : ∃ S : ByteArray, S.data.toList = (zs.take len).map (fun z => UInt8.ofNat z.toNat) := ⟨⟨((zs.take len).map (fun z => UInt8.ofNat z.toNat)).toArray⟩, rfl⟩
    have hsz : S.size = len := by
      have : S.data.toList.length = S.size := by simp
      rw [← this, hS, List.length_map, List.length_take]
      omega
    obtain ⟨b, off, spot⟩ := a
    refine ⟨some ⟨b, off, spot⟩, cap, S, by rw [hsz]; simpa using hv, ?_, by omega, by unfold maxLen at hm; omega, fun h => by cases h⟩
    by_cases hl0 : 0 < len
    · have hspot : spot = none := by simpa [Addr.add] using World.cell?_spot (hcell 0 (by omega))
      subst hspot
      refine .inr ⟨b, off, rfl, fun i hi => ?_⟩
      have hi' : i < len := by omega
      have h := hcell i (by omega)
      rw [add_plain] at h
      rw [h]
      have h1 := Go.Proofs.byte_at S i hi
      rw [hS, List.getElem?_map, List.getElem?_take_of_lt hi', List.getElem?_eq_getElem (show i < zs.length by omega)] at h1
      have h2 : UInt8.ofNat (zs[i]'(by omega)).toNat = S[i] := by simpa using h1
      have hmem : zs[i]'(by omega) ∈ zs := List.getElem_mem _
      obtain ⟨w0, w1⟩ := u8_of (hwf _ hmem)
      have h3 : (S[i].toNat : Int) = zs[i]'(by omega) := by
        rw [← h2, UInt8.toNat_ofNat']
        omega
      rw [h3]
      simp [List.getD, List.getElem?_eq_getElem (show i < zs.length by omega)]
    · exact .inl (by omega)

theorem cells8 : Try.prog.cellsOf 5 = 1 := by kernel_rfl
theorem two_of {X Y x y X2 Y2 : Int} {v v2 : Value} {w : World} {a a2 : Option Addr} {c c2 : Nat} {S S2 : ByteArray} (e1 : v = .slice a S.size c) (e2 : v2 = .slice a2 S2.size c2)
    (h : Calls Try.prog 6 #[.agg #[.int .i64 X, .int .i64 Y, .slice a S.size c], .agg #[.int .i64 X2, .int .i64 Y2, .slice a2 S2.size c2], .int .i64 x, .int .i64 y] w fun e w' => e = .returned (.bool true) ∧ w.grownBy w' none) :
    Calls Try.prog 6 #[.agg #[.int .i64 X, .int .i64 Y, v], .agg #[.int .i64 X2, .int .i64 Y2, v2], .int .i64 x, .int .i64 y] w fun e w' => e = .returned (.bool true) ∧ w.grownBy w' none := by
  subst e1; subst e2; exact h

set_option maxRecDepth 100000 in
theorem lifted (os : Os) (started : os.Started) (H : Type) (enc : TypeId × Value → H) :
    ReturnsInHanded {} Try.checked os 6 .any (Rows.rasterImagesSpec.pre6 enc Try.prog Try.f6 Rows.rasterImagesRow.domain false) (Rows.rasterImagesSpec.post enc Try.prog Try.f6 false true false false) := by
  refine returnsInHanded_of_change (C := Try.checked) own started (by kernel_rfl) Try.func6
    (ChangeSpec.witness6 (enc := enc) (C := Try.checked) false ⟨#[], #[.agg #[.int .i64 0, .int .i64 0, .slice none 0 0], .agg #[.int .i64 0, .int .i64 0, .slice none 0 0], .int .i64 0, .int .i64 0], []⟩ 8 (by kernel_rfl) (by kernel_rfl) (by kernel_rfl) (by kernel_rfl)) ?_
  intro W base args ds gs before hval0 hW hcnd _
  have hval : ∀ (j : Nat) t v, Try.f6.params[j]? = some t → args[j]? = some v → Value.okWide Try.prog W .any base t v := hval0
  have hW' := hW
  obtain ⟨p, q, hA0, hV, hbp, hfz, hnd⟩ := hW
  have hA : DataW.TrodAll enc Try.prog W 0 (fun _ => true) true Try.f6.params.toList args.toList ds p := hA0
  have hAk := hA
  rw [Try.params6] at hA hval
  obtain ⟨v0, vs0, d0, ds0, p0, q0, hargs, rfl, rfl, h0, r0⟩ := trodAll_cons hA
  obtain ⟨v1, vs1, d1, ds1, p1, q1, rfl, rfl, rfl, h1, r1⟩ := trodAll_cons r0
  obtain ⟨v2, vs2, d2, ds2, p2, q2, rfl, rfl, rfl, h2, r2⟩ := trodAll_cons r1
  obtain ⟨v3, vs3, d3, ds3, p3, q3, rfl, rfl, rfl, h3, r3⟩ := trodAll_cons r2
  obtain ⟨rfl, rfl, rfl⟩ := trodAll_nil r3
  obtain rfl : args = #[v0, v1, v2, v3] := by cases args; simp_all
  obtain ⟨rfl, rfl⟩ := trodVars_none hV
  obtain ⟨c0, c1, c2, y0, y1, y2, n, rfl, rfl, _, t0, t1, t2⟩ := open_agg3 Try.underlying48 (by kernel_rfl) (by kernel_rfl) (hval 0 48 v0 rfl rfl) h0
  obtain ⟨z0, rfl, w0⟩ := int_of_trod Try.underlying3 t0
  obtain ⟨z1, rfl, w1⟩ := int_of_trod Try.underlying3 t1
  obtain ⟨c3, c4, c5, y3, y4, y5, n', rfl, rfl, _, t3, t4, t5⟩ := open_agg3 Try.underlying48 (by kernel_rfl) (by kernel_rfl) (hval 1 48 v1 rfl rfl) h1
  obtain ⟨z3, rfl, w3⟩ := int_of_trod Try.underlying3 t3
  obtain ⟨z4, rfl, w4⟩ := int_of_trod Try.underlying3 t4
  obtain ⟨a, c, S, e1, b1, l1, m1, n1⟩ := open_text Try.underlying46 Try.underlying5 cells8 t2
  obtain ⟨a2, k2, S2, e2, b2, l2, m2, n2⟩ := open_text Try.underlying46 Try.underlying5 cells8 t5
  obtain ⟨i, rfl, _, _, w5⟩ := open_int Try.underlying3 (hval 2 3 v2 rfl rfl) h2
  obtain ⟨j, rfl, _, _, w6⟩ := open_int Try.underlying3 (hval 3 3 v3 rfl rfl) h3
  refine (two_of e1 e2 (ri_any z0 z1 i j z3 z4 a a2 c k2 S S2 W b1 b2 l1 m1 n1)).mono fun e W' ⟨he, hg⟩ => ?_
  subst he
  exact ⟨_, rfl, law_post laidOut rfl (by kernel_rfl) Try.underlying4 (by rw [Try.params6]; intro t ht; simp at ht; rcases ht with rfl | rfl <;> exact ⟨by kernel_rfl, of_decide_eq_true (by kernel_rfl)⟩) hW' hAk (by rw [hbp]; simp) rfl rfl rfl rfl hg⟩

theorem over : Rows.rasterImagesRow.holds Try.pinned (OpenSpec.ofChange Rows.rasterImagesSpec) :=
  OpenClaim.holds_of_wide 6 Try.f6 rfl rfl rfl rfl rfl rfl rfl ⟨rfl, rfl, rfl, rfl, rfl⟩ rfl rfl rfl rfl rfl (by kernel_rfl) Try.func6 (by kernel_rfl)
    (of_decide_eq_true (by kernel_rfl)) (by unfold Func.isWrapper; first | (rw [if_pos (by decide +kernel)]; kernel_rfl) | (rw [if_neg (by decide +kernel)]; exact ⟨rfl, rfl⟩))
    (fun os started H enc _ => lifted os started H enc)

theorem proved : Rows.RasterImagesSaid :=
  over
#print axioms proved
end Go.Proofs.Ythgpjdnppknghaa.rasterImages
