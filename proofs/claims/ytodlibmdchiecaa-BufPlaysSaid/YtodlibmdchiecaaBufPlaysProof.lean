/- Proved: for every number of bytes and every list of calls the law BufPlays returns true: a buffer answers as bytes do, and its ledger counts them till they are freed. No condition. -/
import Derived.Test.YtodlibmdchiecaaLaw2
import Derived.Test.YtodlibmdchiecaaBufPlaysB
import Derived.Test.YtodlibmdchiecaaBufPlaysC
namespace Go.Proofs.Ytodlibmdchiecaa.bufPlays
open Go.ChangeShapes Go.WideShapes Go.ChangeAt Go.RowKit Go.Deep Go.Joins La Bu
set_option linter.unusedVariables false

/-- The cells of a slice of calls, by functions of the place. -/
theorem open_ops5 {H : Type} {enc : TypeId × Value → H} {w : World} {base : Nat} {spare : Nat → Bool} {held : Bool} {P : Program} {t e ti t8 ts : TypeId} {f0 f1 f2 f3 f4 : Field} {fuel : Nat} {v : Value} {x : DataW H × List MemPlace}
    (ht : P.underlying t = some (.slice e)) (he : P.underlying e = some (.struct #[f0, f1, f2, f3, f4])) (hone : oneCellFields P #[f0, f1, f2, f3, f4] = true) (hC : P.cellsOf e = 5)
    (hi : P.underlying ti = some (.int .i64)) (h8 : P.underlying t8 = some (.int .u8)) (hs : P.underlying ts = some .string) (t0 : f0.type = ti) (t1 : f1.type = ti) (t2 : f2.type = ti) (t3 : f3.type = t8) (t4 : f4.type = ts) (h : DataW.trod enc P w base spare held fuel t [v] = some x) :
    ∃ (a : Option Addr) (b off len cap : Nat) (K I M : Nat → Int) (V : Nat → UInt8) (S : Nat → ByteArray), v = .slice a len cap ∧ (0 < len → a = some ⟨b, off, none⟩) ∧ len ≤ 9223372036854775807 ∧
      ∀ i, i < len → OpAt w b (off + i * 5) (K i) (I i) (M i) (V i) (S i) ∧ I i ≤ 9223372036854775807 ∧ (S i).size ≤ 9223372036854775807 := by
  rcases open_slice_fields ht he hone hC h with ⟨hv, _⟩ | ⟨a, len, cap, m, D, Pl, hv, _, hl, hm, hmm, _, hf⟩
  · exact ⟨none, 0, 0, 0, 0, fun _ => 0, fun _ => 0, fun _ => 0, fun _ => 0, fun _ => ByteArray.empty, by simpa using hv, fun h => by omega, Nat.zero_le _, fun i hi => by omega⟩
  · have hlm : len ≤ m := by rw [hmm]; split <;> omega
    have hmx : len ≤ 9223372036854775807 := by unfold maxLen at hm; omega
    have each : ∀ i, ∃ q : (Int × Int × Int) × (UInt8 × ByteArray), i < len → w.cell? (a.add (i * 5)) = some (.int .i64 q.1.1) ∧ w.cell? (a.add (i * 5 + 1)) = some (.int .i64 q.1.2.1) ∧ w.cell? (a.add (i * 5 + 2)) = some (.int .i64 q.1.2.2) ∧
        w.cell? (a.add (i * 5 + 3)) = some (.int .u8 (q.2.1.toNat : Int)) ∧ w.cell? (a.add (i * 5 + 4)) = some (.string q.2.2) ∧ q.1.2.1 ≤ 9223372036854775807 ∧ q.2.2.size ≤ 9223372036854775807 := by
      intro i
      by_cases hil : i < len
      · obtain ⟨ys, n, _, _, _, hg⟩ := hf i (by omega)
        obtain ⟨v0, y0, c0, _, r0⟩ := hg 0 f0 rfl
        obtain ⟨v1, y1, c1, _, r1⟩ := hg 1 f1 rfl
        obtain ⟨v2, y2, c2, _, r2⟩ := hg 2 f2 rfl
        obtain ⟨v3, y3, c3, _, r3⟩ := hg 3 f3 rfl
        obtain ⟨v4, y4, c4, _, r4⟩ := hg 4 f4 rfl
        rw [t0] at r0
        rw [t1] at r1
        rw [t2] at r2
        rw [t3] at r3
        rw [t4] at r4
        obtain ⟨z0, rfl, _⟩ := int_of_trod hi r0
        obtain ⟨z1, rfl, w1⟩ := int_of_trod hi r1
        obtain ⟨z2, rfl, _⟩ := int_of_trod hi r2
        obtain ⟨z3, rfl, w3⟩ := int_of_trod h8 r3
        obtain ⟨s4, hs4, _, hm4⟩ := DataW.trod_string hs r4
        obtain rfl : v4 = .string s4 := by simpa using hs4
        have b3 := u8_of w3
        refine ⟨((z0, z1, z2), (UInt8.ofNat z3.toNat, s4)), fun _ => ⟨c0, c1, c2, ?_, c4, (i64_of w1).2, by unfold maxLen at hm4; show s4.size ≤ _; omega⟩⟩
        show _ = some (Value.int .u8 ((UInt8.ofNat z3.toNat).toNat : Int))
        have e : (UInt8.ofNat z3.toNat).toNat = z3.toNat := by
          rw [UInt8.toNat_ofNat']
          omega
        rw [e, show ((z3.toNat : Nat) : Int) = z3 from by omega]
        exact c3
      · exact ⟨((0, 0, 0), (0, ByteArray.empty)), fun h => absurd h hil⟩
    obtain ⟨Q, hQ⟩ := Classical.axiomOfChoice each
    obtain ⟨b, off, spot⟩ := a
    by_cases hl0 : 0 < len
    · have hspot : spot = none := by
        have := (hQ 0 hl0).1
        simpa [Addr.add] using World.cell?_spot this
      subst hspot
      refine ⟨some ⟨b, off, none⟩, b, off, len, cap, fun i => (Q i).1.1, fun i => (Q i).1.2.1, fun i => (Q i).1.2.2, fun i => (Q i).2.1, fun i => (Q i).2.2, by simpa using hv, fun _ => rfl, hmx, fun i hi => ?_⟩
      have h := hQ i hi
      simp only [add_plain] at h
      obtain ⟨d0, d1, d2, d3, d4, d5, d6⟩ := h
      exact ⟨⟨d0, by rw [Nat.add_assoc]; exact d1, by rw [Nat.add_assoc]; exact d2, by rw [Nat.add_assoc]; exact d3, by rw [Nat.add_assoc]; exact d4⟩, d5, d6⟩
    · exact ⟨_, b, off, len, cap, fun _ => 0, fun _ => 0, fun _ => 0, fun _ => 0, fun _ => ByteArray.empty, by simpa using hv, fun h => absurd h hl0, hmx, fun i hi => by omega⟩

theorem ok_one : OneOk := fun w b l g o s y J k i n v S hi hg => one_calls J k i n v S hi hg

set_option maxRecDepth 100000 in
theorem lifted (os : Os) (started : os.Started) (H : Type) (enc : TypeId × Value → H) :
    ReturnsInHanded {} Try.checked os 3 .any (Rows.bufPlaysSpec.pre6 enc Try.prog Try.f3 Rows.bufPlaysRow.domain false) (Rows.bufPlaysSpec.post enc Try.prog Try.f3 false true false false) := by
  refine returnsInHanded_of_change (C := Try.checked) own started (by kernel_rfl) Try.func3
    (ChangeSpec.witness6 (enc := enc) (C := Try.checked) false ⟨#[], #[.int .u8 0, .slice none 0 0], []⟩ 8 (by kernel_rfl) (by kernel_rfl) (by kernel_rfl) (by kernel_rfl)) ?_
  intro W base args ds gs before hval0 hW hcnd _
  have hval : ∀ (j : Nat) t v, Try.f3.params[j]? = some t → args[j]? = some v → Value.okWide Try.prog W .any base t v := hval0
  have hW' := hW
  obtain ⟨p, q, hA0, hV, hbp, hfz, hnd⟩ := hW
  have hA : DataW.TrodAll enc Try.prog W 0 (fun _ => true) true Try.f3.params.toList args.toList ds p := hA0
  have hAk := hA
  rw [Try.params3] at hA hval
  obtain ⟨v0, vs0, d0, ds0, p0, q0, hargs, rfl, rfl, h0, r0⟩ := trodAll_cons hA
  obtain ⟨v1, vs1, d1, ds1, p1, q1, rfl, rfl, rfl, h1, r1⟩ := trodAll_cons r0
  obtain ⟨rfl, rfl, rfl⟩ := trodAll_nil r1
  obtain rfl : args = #[v0, v1] := by cases args; simp_all
  obtain ⟨rfl, rfl⟩ := trodVars_none hV
  obtain ⟨z0, rfl, _, _, w0⟩ := open_int Try.underlying5 (hval 0 5 v0 rfl rfl) h0
  obtain ⟨s0, sl, sc, rfl⟩ := okWide_slice Try.underlying22 (hval 1 22 v1 rfl rfl)
  obtain ⟨fuel, hf⟩ := h1
  obtain ⟨a, b, off, len, cap, K, I, M, V, S, hv, ha, hm, hc⟩ := open_ops5 Try.underlying22 Try.underlying35 (by kernel_rfl) (by kernel_rfl) Try.underlying3 Try.underlying5 Try.underlying9 rfl rfl rfl rfl rfl hf
  obtain ⟨rfl, rfl, rfl⟩ : s0 = a ∧ sl = len ∧ sc = cap := by simpa using hv
  have hb := u8_of w0
  obtain ⟨N, rfl⟩ := nat_of hb.1
  refine (bplays_walk ok_one N (by omega) _ b off _ _ K I M V S W ha hm hc).mono fun e W' ⟨he, hg⟩ => ?_
  subst he
  exact ⟨_, rfl, law_post laidOut rfl (by kernel_rfl) Try.underlying4 (by rw [Try.params3]; intro t ht; simp at ht; rcases ht with rfl | rfl <;> exact ⟨by kernel_rfl, of_decide_eq_true (by kernel_rfl)⟩) hW' hAk (by rw [hbp]; simp) rfl rfl rfl rfl hg⟩

theorem over : Rows.bufPlaysRow.holds Try.pinned (OpenSpec.ofChange Rows.bufPlaysSpec) :=
  OpenClaim.holds_of_wide 3 Try.f3 rfl rfl rfl rfl rfl rfl rfl ⟨rfl, rfl, rfl, rfl, rfl⟩ rfl rfl rfl rfl rfl (by kernel_rfl) Try.func3 (by kernel_rfl)
    (of_decide_eq_true (by kernel_rfl)) (by unfold Func.isWrapper; first | (rw [if_pos (by decide +kernel)]; kernel_rfl) | (rw [if_neg (by decide +kernel)]; exact ⟨rfl, rfl⟩))
    (fun os started H enc _ => lifted os started H enc)

theorem proved : Rows.BufPlaysSaid :=
  over
#print axioms proved
end Go.Proofs.Ytodlibmdchiecaa.bufPlays
