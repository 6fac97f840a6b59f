/- Texts of one kind, one behind the other: Db7. -/
import Derived.Lib.SmallJoins
import Derived.Test.YtikjfmpdfeaooaaDoorG02
import Derived.Test.YtikjfmpdfeaooaaDoorG06
/- Layer 20: a head handed in: its numbers (written by wip/gen/dbo.py). -/
namespace Go.Proofs.YtikjfmpdfeaooaaDoor.La
open Go.ChangeShapes Go.WideShapes Go.ChangeAt Go.RowKit Go.Deep Go.Joins
set_option linter.unusedVariables false

theorem sixteen_of {α : Type} {cs : Array α} (h : cs.size = 16) : ∃ c0 c1 c2 c3 c4 c5 c6 c7 c8 c9 c10 c11 c12 c13 c14 c15, cs = #[c0, c1, c2, c3, c4, c5, c6, c7, c8, c9, c10, c11, c12, c13, c14, c15] := by
  obtain ⟨l⟩ := cs
  match l, h with
  | [c0, c1, c2, c3, c4, c5, c6, c7, c8, c9, c10, c11, c12, c13, c14, c15], _ => exact ⟨c0, c1, c2, c3, c4, c5, c6, c7, c8, c9, c10, c11, c12, c13, c14, c15, rfl⟩
theorem int_of1 {H : Type} {enc : TypeId × Value → H} {P : Program} {w : World} {base : Nat} {spare : Nat → Bool} {held : Bool} {t : TypeId} {k : IntKind} {n : Nat} {v : Value} {y : DataW H × List MemPlace} (ht : P.underlying t = some (.int k)) (h : DataW.trod enc P w base spare held n t [v] = some y) :
    ∃ z : Int, v = .int k z ∧ (Lit.int k z).wf = true := by
  obtain ⟨z, hc, _, hwf⟩ := DataW.trod_int ht h
  exact ⟨z, by simpa using hc, hwf⟩
theorem i64_of1 {z : Int} (h : (Lit.int .i64 z).wf = true) : z ≤ 9223372036854775807 := by
  have h1 : IntKind.i64.min = -9223372036854775808 := rfl
  have h2 : IntKind.i64.max = 9223372036854775807 := rfl
  simp only [Lit.wf, Bool.and_eq_true, decide_eq_true_eq] at h
  omega
theorem fld {H : Type} {enc : TypeId × Value → H} {w : World} {base : Nat} {spare : Nat → Bool} {held : Bool} {P : Program} {fs : Array Field} {n : Nat} {cs : List Value} {xs : List (DataW H × List MemPlace)}
    (hlen : xs.length = fs.size) (hx : ∀ (i : Nat) (f : Field), fs[i]? = some f → DataW.trod enc P w base spare held n f.type ((cs.drop f.offset).take (P.cellsOf f.type)) = xs[i]?) (i : Nat) (f : Field) (hf : fs[i]? = some f) :
    ∃ y, DataW.trod enc P w base spare held n f.type ((cs.drop f.offset).take (P.cellsOf f.type)) = some y := by
  have hi : i < fs.size := (Array.getElem?_eq_some_iff.1 hf).1
  have h := hx i f hf
  rw [List.getElem?_eq_getElem (by omega)] at h
  exact ⟨_, h⟩
theorem open_mask {H : Type} {enc : TypeId × Value → H} {w : World} {base : Nat} {spare : Nat → Bool} {held : Bool} {n : Nat} {a b : Value} {y : DataW H × List MemPlace}
    (h : DataW.trod enc Tryd.prog w base spare held n 27 [a, b] = some y) : ∃ x z : Int, a = .int .i64 x ∧ b = .int .i64 z ∧ x ≤ 9223372036854775807 := by
  have k1 : Tryd.prog.cellsOf 3 = 1 := by kernel_rfl
  obtain ⟨xs, m, _, _, _, hlen, hx⟩ := DataW.trod_struct Tryd.underlying27 h
  obtain ⟨y0, h0⟩ := fld hlen hx 0 _ rfl
  obtain ⟨y1, h1⟩ := fld hlen hx 1 _ rfl
  simp only [List.getElem_toArray, List.getElem_cons_zero, List.getElem_cons_succ, k1, List.drop_zero, List.drop_succ_cons, List.take_succ_cons, List.take_zero] at h0 h1
  obtain ⟨x, e0, w0⟩ := int_of1 Tryd.underlying3 h0
  obtain ⟨z, e1, w1⟩ := int_of1 Tryd.underlying3 h1
  exact ⟨x, z, e0, e1, i64_of1 w0⟩
theorem open_set {H : Type} {enc : TypeId × Value → H} {w : World} {base : Nat} {spare : Nat → Bool} {held : Bool} {n : Nat} {a0 a1 a2 a3 a4 a5 a6 a7 : Value} {y : DataW H × List MemPlace}
    (h : DataW.trod enc Tryd.prog w base spare held n 29 [a0, a1, a2, a3, a4, a5, a6, a7] = some y) : ∃ v0 v1 v2 v3 v4 v5 v6 v7 : Int, a0 = .int .i64 v0 ∧ a1 = .int .i64 v1 ∧ a2 = .int .i64 v2 ∧ a3 = .int .i64 v3 ∧ a4 = .int .i64 v4 ∧ a5 = .int .i64 v5 ∧ a6 = .int .i64 v6 ∧ a7 = .int .i64 v7 ∧ v0 ≤ 9223372036854775807 ∧ v2 ≤ 9223372036854775807 ∧ v4 ≤ 9223372036854775807 := by
  have k2 : Tryd.prog.cellsOf 27 = 2 := by kernel_rfl
  obtain ⟨xs, m, _, _, _, hlen, hx⟩ := DataW.trod_struct Tryd.underlying29 h
  obtain ⟨y0, h0⟩ := fld hlen hx 0 _ rfl
  obtain ⟨y1, h1⟩ := fld hlen hx 1 _ rfl
  obtain ⟨y2, h2⟩ := fld hlen hx 2 _ rfl
  obtain ⟨y3, h3⟩ := fld hlen hx 3 _ rfl
  simp only [List.getElem_toArray, List.getElem_cons_zero, List.getElem_cons_succ, k2, List.drop_zero, List.drop_succ_cons, List.take_succ_cons, List.take_zero] at h0 h1 h2 h3
  obtain ⟨v0, v1, e0, e1, b0⟩ := open_mask h0
  obtain ⟨v2, v3, e2, e3, b2⟩ := open_mask h1
  obtain ⟨v4, v5, e4, e5, b4⟩ := open_mask h2
  obtain ⟨v6, v7, e6, e7, b6⟩ := open_mask h3
  exact ⟨v0, v1, v2, v3, v4, v5, v6, v7, e0, e1, e2, e3, e4, e5, e6, e7, b0, b2, b4⟩
set_option maxRecDepth 100000 in
/-- A head handed in: its numbers, its truth. -/
theorem open_dib {H : Type} {enc : TypeId × Value → H} {w : World} {base b0 : Nat} {spare : Nat → Bool} {held : Bool} {r : Reach} {v : Value} {d : DataW H} {p : List MemPlace}
    (hv : Value.okWide Tryd.prog w r b0 31 v) (h : DataW.Trod enc Tryd.prog w base spare held 31 v d p) :
    ∃ (S X Y : Int) (tp : Bool) (D M C v0 v1 v2 v3 v4 v5 v6 v7 fr : Int), v = .agg #[.int .i64 S, .int .i64 X, .int .i64 Y, .bool tp, .int .i64 D, .int .i64 M, .int .i64 C, .int .i64 v0, .int .i64 v1, .int .i64 v2, .int .i64 v3, .int .i64 v4, .int .i64 v5, .int .i64 v6, .int .i64 v7, .int .i64 fr] ∧ v0 ≤ 9223372036854775807 ∧ v2 ≤ 9223372036854775807 ∧ v4 ≤ 9223372036854775807 := by
  have k1 : Tryd.prog.cellsOf 3 = 1 := by kernel_rfl
  have kb : Tryd.prog.cellsOf 4 = 1 := by kernel_rfl
  have k8 : Tryd.prog.cellsOf 29 = 8 := by kernel_rfl
  have k16 : Tryd.prog.cellsOf 31 = 16 := by kernel_rfl
  obtain ⟨cs, rfl, hsz⟩ := okWide_struct Tryd.underlying31 hv
  obtain ⟨c0, c1, c2, c3, c4, c5, c6, c7, c8, c9, c10, c11, c12, c13, c14, c15, rfl⟩ := sixteen_of (hsz.trans k16)
  obtain ⟨fuel, hf⟩ := h
  obtain ⟨xs, n, _, _, _, hlen, hx⟩ := DataW.trod_struct Tryd.underlying31 hf
  obtain ⟨y0, h0⟩ := fld hlen hx 0 _ rfl
  obtain ⟨y1, h1⟩ := fld hlen hx 1 _ rfl
  obtain ⟨y2, h2⟩ := fld hlen hx 2 _ rfl
  obtain ⟨y3, h3⟩ := fld hlen hx 3 _ rfl
  obtain ⟨y4, h4⟩ := fld hlen hx 4 _ rfl
  obtain ⟨y5, h5⟩ := fld hlen hx 5 _ rfl
  obtain ⟨y6, h6⟩ := fld hlen hx 6 _ rfl
  obtain ⟨y7, h7⟩ := fld hlen hx 7 _ rfl
  obtain ⟨y8, h8⟩ := fld hlen hx 8 _ rfl
  simp only [List.getElem_toArray, List.getElem_cons_zero, List.getElem_cons_succ, k1, kb, k8, List.drop_zero] at h0 h1 h2 h3 h4 h5 h6 h7 h8
  obtain ⟨S, e0, w0⟩ := int_of1 Tryd.underlying3 h0
  obtain ⟨X, e1, w1⟩ := int_of1 Tryd.underlying3 h1
  obtain ⟨Y, e2, w2⟩ := int_of1 Tryd.underlying3 h2
  obtain ⟨D, e4, w4⟩ := int_of1 Tryd.underlying3 h4
  obtain ⟨M, e5, w5⟩ := int_of1 Tryd.underlying3 h5
  obtain ⟨C, e6, w6⟩ := int_of1 Tryd.underlying3 h6
  obtain ⟨fr, e8, w8⟩ := int_of1 Tryd.underlying3 h8
  obtain ⟨tp, t3, _⟩ := DataW.trod_bool Tryd.underlying4 h3
  have e3 : c3 = .bool tp := by
    have q : [c3] = [Value.bool tp] := t3
    simpa using q
  obtain ⟨v0, v1, v2, v3, v4, v5, v6, v7, g0, g1, g2, g3, g4, g5, g6, g7, b0, b2, b4⟩ := open_set h7
  subst e0 e1 e2 e3 e4 e5 e6 e8 g0 g1 g2 g3 g4 g5 g6 g7
  exact ⟨S, X, Y, tp, D, M, C, v0, v1, v2, v3, v4, v5, v6, v7, fr, rfl, b0, b2, b4⟩

end Go.Proofs.YtikjfmpdfeaooaaDoor.La
