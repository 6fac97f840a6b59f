/- Proved: for every image the law FfBack returns true: any image that can be written is decoded as it was, and what is written is the document's; what can't is told. No condition. -/
import Derived.ChangeSlices
import Derived.Test.YtboojlkncbipoaaGreatG01
import Derived.Test.YtboojlkncbipoaaGreatG02
import Derived.Test.YtboojlkncbipoaaGreatG37
namespace Go.Proofs.YtboojlkncbipoaaGreat.ffBack
open Go.ChangeShapes Go.WideShapes Go.ChangeAt Go.RowKit Go.Deep Go.Joins La Ra Fb
set_option linter.unusedVariables false

/-- The bytes of a slice, as a text. -/
theorem open_text {H : Type} {enc : TypeId × Value → H} {w : World} {base : Nat} {spare : Nat → Bool} {held : Bool} {P : Program} {t e : TypeId} {fuel : Nat} {v : Value} {x : DataW H × List MemPlace}
    (ht : P.underlying t = some (.slice e)) (he : P.underlying e = some (.int .u8)) (hC : P.cellsOf e = 1) (h : DataW.trod enc P w base spare held fuel t [v] = some x) :
    ∃ (a : Option Addr) (cap : Nat) (S : ByteArray), v = .slice a S.size cap ∧ Bx a S w ∧ S.size ≤ cap ∧ cap ≤ 9223372036854775807 ∧ (a = none → cap = 0 ∧ S.size = 0) := by
  rcases open_ints ht he hC h with ⟨hv, _⟩ | ⟨a, len, cap, zs, hv, _, hl, hm, hz, _, hcell, hwf⟩
  · exact ⟨none, 0, ByteArray.empty, by simpa using hv, .inl rfl, Nat.le_refl _, Nat.zero_le _, fun _ => ⟨rfl, rfl⟩⟩
  · have hlz : len ≤ zs.length := by rw [hz]; split <;> omega
    obtain ⟨S, hS⟩ : ∃ S : ByteArray, S.data.toList = (zs.take len).map (fun z => UInt8.ofNat z.toNat) := ⟨⟨((zs.take len).map (fun z => UInt8.ofNat z.toNat)).toArray⟩, rfl⟩
    have hsz : S.size = len := by
      have : S.data.toList.length = S.size := by simp
      rw [← this, hS, List.length_map, List.length_take]
      omega
    obtain ⟨b, off, spot⟩ := a
    refine ⟨some ⟨b, off, spot⟩, cap, S, by rw [hsz]; simpa using hv, ?_, by omega, by unfold maxLen at hm; omega, fun h => by cases h⟩
    by_cases hl0 : 0 < len
    · have hspot : spot = none := by simpa [Addr.add] using World.cell?_spot (hcell 0 (by omega))
      subst hspot
      refine .inr ⟨b, off, rfl, fun i hi => ?_⟩
      have hi' : i < len := by omega
      have h := hcell i (by omega)
      rw [add_plain] at h
      rw [h]
      have h1 := Go.Proofs.byte_at S i hi
      rw [hS, List.getElem?_map, List.getElem?_take_of_lt hi', List.getElem?_eq_getElem (show i < zs.length by omega)] at h1
      have h2 : UInt8.ofNat (zs[i]'(by omega)).toNat = S[i] := by simpa using h1
      have hmem : zs[i]'(by omega) ∈ zs := List.getElem_mem _
      obtain ⟨w0, w1⟩ := u8_of (hwf _ hmem)
      have h3 : (S[i].toNat : Int) = zs[i]'(by omega) := by
        rw [← h2, UInt8.toNat_ofNat']
        omega
      rw [h3]
      simp [List.getD, List.getElem?_eq_getElem (show i < zs.length by omega)]
    · exact .inl (by omega)

theorem cells8 : Tryz.prog.cellsOf 5 = 1 := by kernel_rfl
set_option maxRecDepth 100000 in
theorem lifted (os : Os) (started : os.Started) (H : Type) (enc : TypeId × Value → H) :
    ReturnsInHanded {} Tryz.checked os 8 .any (Rows.ffBackSpec.pre6 enc Tryz.prog Tryz.f8 Rows.ffBackRow.domain false) (Rows.ffBackSpec.post enc Tryz.prog Tryz.f8 false true false false) := by
  refine returnsInHanded_of_change (C := Tryz.checked) own started (by kernel_rfl) Tryz.func8
    (ChangeSpec.witness6 (enc := enc) (C := Tryz.checked) false ⟨#[], #[.agg #[.int .i64 0, .int .i64 0, .slice none 0 0]], []⟩ 8 (by kernel_rfl) (by kernel_rfl) (by kernel_rfl) (by kernel_rfl)) ?_
  intro W base args ds gs before hval0 hW hcnd _
  have hval : ∀ (j : Nat) t v, Tryz.f8.params[j]? = some t → args[j]? = some v → Value.okWide Tryz.prog W .any base t v := hval0
  have hW' := hW
  obtain ⟨p, q, hA0, hV, hbp, hfz, hnd⟩ := hW
  have hA : DataW.TrodAll enc Tryz.prog W 0 (fun _ => true) true Tryz.f8.params.toList args.toList ds p := hA0
  have hAk := hA
  rw [Tryz.params8] at hA hval
  obtain ⟨v0, vs0, d0, ds0, p0, q0, hargs, rfl, rfl, h0, r0⟩ := trodAll_cons hA
  obtain ⟨rfl, rfl, rfl⟩ := trodAll_nil r0
  obtain rfl : args = #[v0] := by cases args; simp_all
  obtain ⟨rfl, rfl⟩ := trodVars_none hV
  obtain ⟨c0, c1, c2, y0, y1, y2, n, rfl, rfl, _, t0, t1, t2⟩ := open_agg3 Tryz.underlying27 (by kernel_rfl) (by kernel_rfl) (hval 0 27 v0 rfl rfl) h0
  obtain ⟨z0, rfl, w0⟩ := int_of_trod Tryz.underlying3 t0
  obtain ⟨z1, rfl, w1⟩ := int_of_trod Tryz.underlying3 t1
  obtain ⟨a, c, S, e1, b1, l1, m1, n1⟩ := open_text Tryz.underlying25 Tryz.underlying5 cells8 t2
  refine (back_of e1 (back_any z0 z1 a c S W b1 (by omega))).mono fun e W' ⟨he, hg⟩ => ?_
  subst he
  exact ⟨_, rfl, law_post laidOut rfl (by kernel_rfl) Tryz.underlying4 (by rw [Tryz.params8]; intro t ht; simp at ht; subst ht; exact ⟨by kernel_rfl, of_decide_eq_true (by kernel_rfl)⟩) hW' hAk (by rw [hbp]; simp) rfl rfl rfl rfl hg⟩

theorem over : Rows.ffBackRow.holds Tryz.pinned (OpenSpec.ofChange Rows.ffBackSpec) :=
  OpenClaim.holds_of_wide 8 Tryz.f8 rfl rfl rfl rfl rfl rfl rfl ⟨rfl, rfl, rfl, rfl, rfl⟩ rfl rfl rfl rfl rfl (by kernel_rfl) Tryz.func8 (by kernel_rfl)
    (of_decide_eq_true (by kernel_rfl)) (by unfold Func.isWrapper; first | (rw [if_pos (by decide +kernel)]; kernel_rfl) | (rw [if_neg (by decide +kernel)]; exact ⟨rfl, rfl⟩))
    (fun os started H enc _ => lifted os started H enc)

theorem proved : Rows.FfBackSaid :=
  over
#print axioms proved
end Go.Proofs.YtboojlkncbipoaaGreat.ffBack
