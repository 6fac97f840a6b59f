/- The law of layer 16, for every head; what its row wants of a head handed in. -/
import Derived.Test.YtgkeopgccocmkaaTgaA
import Derived.Test.YtgkeopgccocmkaaTga6g
import Derived.Test.YtgkeopgccocmkaaLaw4
namespace Go.Proofs.Ytgkeopgccocmkaa.Tg
open Go.ChangeShapes Go.WideShapes Go.ChangeAt Go.RowKit Go.Deep Go.Joins
open Go.Proofs.Ytgkeopgccocmkaa.Le Go.Proofs.Ytgkeopgccocmkaa.Sr Go.Proofs.Ytgkeopgccocmkaa.La
set_option linter.unusedVariables false

theorem bytes_any (n0 n2 n3 n4 n5 n6 n7 n8 n9 : Int) (mp lf tp : Bool) (W : World) :
    Calls Try.prog 3 #[.agg #[.int .i64 n0, .bool mp, .int .i64 n2, .int .i64 n3, .int .i64 n4, .int .i64 n5, .int .i64 n6, .int .i64 n7, .int .i64 n8, .int .i64 n9, .bool lf, .bool tp]] W fun e w' => e = .returned (.bool true) ∧ W.grownBy w' none :=
  bytes_at n0 n2 n3 n4 n5 n6 n7 n8 n9 mp lf tp W _ _ _ rfl rfl rfl
    (fun u => (packed_calls n2 u).mono (fun _ _ ⟨h1, h2⟩ => ⟨by rw [h1, pk_eq], h2.symm⟩))
    (fun z h18 hm C u => read_good z u h18 hm C)

set_option maxRecDepth 100000 in
theorem twelve_of {α : Type} {cs : Array α} (h : cs.size = 12) : ∃ c0 c1 c2 c3 c4 c5 c6 c7 c8 c9 c10 c11, cs = #[c0, c1, c2, c3, c4, c5, c6, c7, c8, c9, c10, c11] := by
  obtain ⟨l⟩ := cs
  match l, h with
  | [c0, c1, c2, c3, c4, c5, c6, c7, c8, c9, c10, c11], _ => exact ⟨c0, c1, c2, c3, c4, c5, c6, c7, c8, c9, c10, c11, rfl⟩
set_option maxRecDepth 100000 in
/-- A head handed in: nine numbers and three truths. -/
theorem open_head {H : Type} {enc : TypeId × Value → H} {w : World} {base b0 : Nat} {spare : Nat → Bool} {held : Bool} {r : Reach} {fs : Array Field} {v : Value} {d : DataW H} {p : List MemPlace}
    (hs : Try.prog.underlying 23 = some (.struct fs)) (hone : oneCellFields Try.prog fs = true) (hC : Try.prog.cellsOf 23 = fs.size)
    (ht : fs.map (·.type) = #[3, 4, 3, 3, 3, 3, 3, 3, 3, 3, 4, 4])
    (hv : Value.okWide Try.prog w r b0 23 v) (h : DataW.Trod enc Try.prog w base spare held 23 v d p) :
    ∃ (n0 n2 n3 n4 n5 n6 n7 n8 n9 : Int) (mp lf tp : Bool), v = .agg #[.int .i64 n0, .bool mp, .int .i64 n2, .int .i64 n3, .int .i64 n4, .int .i64 n5, .int .i64 n6, .int .i64 n7, .int .i64 n8, .int .i64 n9, .bool lf, .bool tp] := by
  obtain ⟨cs, n, rfl, hz, hf⟩ := open_fields hs hone hC hv h
  have hz12 : fs.size = 12 := by have := congrArg Array.size ht; rw [Array.size_map] at this; exact this
  obtain ⟨c0, c1, c2, c3, c4, c5, c6, c7, c8, c9, c10, c11, rfl⟩ := twelve_of (hz.trans hz12)
  have hty : ∀ i (hi : i < fs.size), ∃ f, fs[i]? = some f ∧ some f.type = (fs.map (·.type))[i]? := fun i hi => ⟨fs[i], Array.getElem?_eq_getElem hi, by simp [hi]⟩
  rw [ht] at hty
  have ii : ∀ i (hi : i < 12) c, #[c0, c1, c2, c3, c4, c5, c6, c7, c8, c9, c10, c11][i]? = some c → #[3, 4, 3, 3, 3, 3, 3, 3, 3, 3, 4, 4][i]? = some 3 → ∃ z, c = .int .i64 z := by
    intro i hi c hc ht
    obtain ⟨f, h1, h2⟩ := hty i (by omega)
    obtain ⟨c', y, h3, h4⟩ := hf i f h1
    rw [hc] at h3
    obtain rfl := Option.some.inj h3
    rw [ht] at h2
    rw [Option.some.inj h2] at h4
    obtain ⟨z, e, _⟩ := int_of_trod Try.underlying3 h4
    exact ⟨z, e⟩
  have bb : ∀ i (hi : i < 12) c, #[c0, c1, c2, c3, c4, c5, c6, c7, c8, c9, c10, c11][i]? = some c → #[3, 4, 3, 3, 3, 3, 3, 3, 3, 3, 4, 4][i]? = some 4 → ∃ z, c = .bool z := by
    intro i hi c hc ht
    obtain ⟨f, h1, h2⟩ := hty i (by omega)
    obtain ⟨c', y, h3, h4⟩ := hf i f h1
    rw [hc] at h3
    obtain rfl := Option.some.inj h3
    rw [ht] at h2
    rw [Option.some.inj h2] at h4
    obtain ⟨z, hz, _⟩ := DataW.trod_bool Try.underlying4 h4
    exact ⟨z, by simpa using hz⟩
  obtain ⟨n0, rfl⟩ := ii 0 (by decide) _ rfl rfl
  obtain ⟨mp, rfl⟩ := bb 1 (by decide) _ rfl rfl
  obtain ⟨n2, rfl⟩ := ii 2 (by decide) _ rfl rfl
  obtain ⟨n3, rfl⟩ := ii 3 (by decide) _ rfl rfl
  obtain ⟨n4, rfl⟩ := ii 4 (by decide) _ rfl rfl
  obtain ⟨n5, rfl⟩ := ii 5 (by decide) _ rfl rfl
  obtain ⟨n6, rfl⟩ := ii 6 (by decide) _ rfl rfl
  obtain ⟨n7, rfl⟩ := ii 7 (by decide) _ rfl rfl
  obtain ⟨n8, rfl⟩ := ii 8 (by decide) _ rfl rfl
  obtain ⟨n9, rfl⟩ := ii 9 (by decide) _ rfl rfl
  obtain ⟨lf, rfl⟩ := bb 10 (by decide) _ rfl rfl
  obtain ⟨tp, rfl⟩ := bb 11 (by decide) _ rfl rfl
  exact ⟨n0, n2, n3, n4, n5, n6, n7, n8, n9, mp, lf, tp, rfl⟩

end Go.Proofs.Ytgkeopgccocmkaa.Tg
