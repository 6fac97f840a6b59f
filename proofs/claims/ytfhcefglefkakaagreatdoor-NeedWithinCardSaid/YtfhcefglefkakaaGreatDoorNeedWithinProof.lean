/- Proved: for every two budgets the law NeedWithin returns true: a budget is within another one just if each of its numbers is at most the other's, numbers below 0 as 0. The card: the program's table of eight formats, and the library's of 32 numbers, hold what their texts lay in them. No other condition. -/
import Derived.Test.YtfhcefglefkakaaGreatDoorLaw
import Derived.Test.YtfhcefglefkakaaGreatDoorLaw2
import Derived.Test.YtfhcefglefkakaaGreatDoorNe9
import Derived.Test.YtfhcefglefkakaaGreatDoorNeT
import Derived.ChangeSlices
import Derived.Test.YtfhcefglefkakaaGreatDoorTie
import Derived.Test.YtfhcefglefkakaaGreatDoorCards
import Derived.LaidMore
import Derived.Stop.Joined
import Derived.Lib.LaidTab
import Derived.MakeChecks
namespace Go.Proofs.YtfhcefglefkakaaGreatDoor.needWithin
open Go.ChangeShapes Go.WideShapes Go.ChangeAt Go.RowKit Go.Deep Go.Joins La Sn Go.Proofs.YtfhcefglefkakaaGreatDoor.Ne
set_option linter.unusedVariables false

/-- The door's own heap meets the condition. -/
theorem door_met (os : Os) (args : Array Value) : laidMetH Tryz.prog Rows.needWithinRow.laid ((World.doorLaid Tryz.prog 6000 os).forCall (fun _ _ => 0) ⟨#[], args, []⟩).memory :=
  laidMetH_of_parts3 (fuel := 8) (laidMet_of_run' 8 (by kernel_rfl) (by kernel_rfl)) (by kernel_rfl) (by kernel_rfl)

set_option maxRecDepth 100000 in
theorem lifted (os : Os) (started : os.Started) (H : Type) (enc : TypeId × Value → H) :
    ReturnsInHanded {} Tryz.checked os 4 .any (fun w args => (Rows.needWithinSpec.pre enc Tryz.prog Tryz.f4 [] false w args ∧ laidMetH Tryz.prog Rows.needWithinRow.laid w) ∧ sizedMet enc Tryz.prog Tryz.f4 (OpenSpec.ofChange Rows.needWithinSpec) false w args)
      (Rows.needWithinSpec.post enc Tryz.prog Tryz.f4 false true false false) := by
  refine returnsInHanded_of_change_and (C := Tryz.checked) (X := fun w _ => laidMetH Tryz.prog Rows.needWithinRow.laid w) (fun _ _ _ hh h => h.of_heap hh) own started (by kernel_rfl) Tryz.func4
    (ChangeSpec.witness_shaped (enc := enc) (C := Tryz.checked) (os := os) (X := fun w _ => laidMetH Tryz.prog Rows.needWithinRow.laid w) false (World.doorLaid Tryz.prog 6000 os) #[.agg #[.int .i64 0, .int .i64 0, .int .i64 0, .int .i64 0], .agg #[.int .i64 0, .int .i64 0, .int .i64 0, .int .i64 0]] 8 rfl (World.shaped_of_RefB (by kernel_rfl) (by kernel_rfl)) (by kernel_rfl) (by kernel_rfl) (by kernel_rfl) (door_met os _)) ?_
  intro W base args ds gs before hval0 hW _ _ hL _
  have hval : ∀ (j : Nat) t v, Tryz.f4.params[j]? = some t → args[j]? = some v → Value.okWide Tryz.prog W .any base t v := hval0
  have hW' := hW
  obtain ⟨p, q, hA0, hV, hbp, hfz, hnd⟩ := hW
  have hA : DataW.TrodAll enc Tryz.prog W 0 (fun _ => true) true Tryz.f4.params.toList args.toList ds p := hA0
  have hAk := hA
  rw [Tryz.params4] at hA hval
  obtain ⟨v0, vs0, d0, ds0, p0, q0, hargs, rfl, rfl, h0, r0⟩ := trodAll_cons hA
  obtain ⟨v1, vs1, d1, ds1, p1, q1, rfl, rfl, rfl, h1, r1⟩ := trodAll_cons r0
  obtain ⟨rfl, rfl, rfl⟩ := trodAll_nil r1
  obtain rfl : args = #[v0, v1] := by cases args; simp_all
  obtain ⟨rfl, rfl⟩ := trodVars_none hV
  obtain ⟨c0_0, c0_1, c0_2, c0_3, y0_0, y0_1, y0_2, y0_3, n0, rfl, rfl, _, t0_0, t0_1, t0_2, t0_3⟩ := open_agg4 Tryz.underlying25 (by kernel_rfl) (by kernel_rfl) (hval 0 25 v0 rfl rfl) h0
  obtain ⟨z0_0, rfl, w0_0⟩ := int_of_trod Tryz.underlying3 t0_0
  obtain ⟨z0_1, rfl, w0_1⟩ := int_of_trod Tryz.underlying3 t0_1
  obtain ⟨z0_2, rfl, w0_2⟩ := int_of_trod Tryz.underlying3 t0_2
  obtain ⟨z0_3, rfl, w0_3⟩ := int_of_trod Tryz.underlying3 t0_3
  obtain ⟨c1_0, c1_1, c1_2, c1_3, y1_0, y1_1, y1_2, y1_3, n1, rfl, rfl, _, t1_0, t1_1, t1_2, t1_3⟩ := open_agg4 Tryz.underlying25 (by kernel_rfl) (by kernel_rfl) (hval 1 25 v1 rfl rfl) h1
  obtain ⟨z1_0, rfl, w1_0⟩ := int_of_trod Tryz.underlying3 t1_0
  obtain ⟨z1_1, rfl, w1_1⟩ := int_of_trod Tryz.underlying3 t1_1
  obtain ⟨z1_2, rfl, w1_2⟩ := int_of_trod Tryz.underlying3 t1_2
  obtain ⟨z1_3, rfl, w1_3⟩ := int_of_trod Tryz.underlying3 t1_3
  have ht : OrdT W := by
    have hL' : laidMet Tryz.prog [("math/bits.deBruijn32tab", Lib.tabData .u8 [0, 1, 28, 2, 29, 14, 24, 3, 30, 22, 20, 15, 25, 17, 4, 8, 31, 27, 13, 23, 21, 19, 16, 7, 26, 12, 18, 6, 11, 5, 10, 9]), ("tintype/sniff.order", Lib.tabData .i64 ordZ)] W := by
      have h := hL
      rwa [MakeChecks.laidMetH_plain _ _ _ (by kernel_rfl)] at h
    exact ord_of (tabIs_second (g := 0) (n := 8) (by kernel_rfl) rfl (by kernel_rfl) Tryz.underlying3 (by kernel_rfl) (by kernel_rfl) hL')
  refine (within_any z0_0 z0_1 z0_2 z0_3 z1_0 z1_1 z1_2 z1_3 W ht).mono fun e W' ⟨he, hg⟩ => ?_
  subst he
  exact ⟨_, rfl, law_post laidOut rfl (by kernel_rfl) Tryz.underlying4 (by rw [Tryz.params4]; intro t ht; simp at ht; subst ht; exact ⟨by kernel_rfl, of_decide_eq_true (by kernel_rfl)⟩) hW' hAk (by rw [hbp]; simp) rfl rfl rfl rfl hg⟩

theorem row_holds : Rows.NeedWithinSaid :=
  OpenClaim.holds_of_wide 4 Tryz.f4 rfl rfl rfl rfl rfl rfl rfl ⟨rfl, rfl, rfl, rfl, rfl⟩ rfl rfl rfl rfl rfl (by kernel_rfl) Tryz.func4 (by kernel_rfl)
    (of_decide_eq_true (by kernel_rfl)) (by unfold Func.isWrapper; first | (rw [if_pos (by decide +kernel)]; kernel_rfl) | (rw [if_neg (by decide +kernel)]; exact ⟨rfl, rfl⟩))
    (fun os started H enc _ => lifted os started H enc)

theorem proved : Rows.NeedWithinCardSaid :=
  Claim7.holds_tied_plain_at .later [] [.data, .data] true Rows.needWithinCard.stood.harness false
    row_holds (fun _ h => by cases h) (by kernel_rfl) (fun _ h => by cases h) needWithin_row_tie rfl ⟨rfl, rfl⟩ (by kernel_rfl) rfl
    (fun f fn hf hfn => by
      obtain rfl : f = 4 := Option.some.inj ((show Tryz.prog.funcNamed Rows.needWithinRow.func = some 4 by kernel_rfl).symm.trans hf) |>.symm
      obtain rfl : fn = Tryz.f4 := (Option.some.inj (Tryz.func4.symm.trans hfn)).symm
      exact ⟨by kernel_rfl, fun j t ht => by
        rw [Tryz.params4] at ht
        have hm : t ∈ [25, 25] := by simpa using Array.mem_of_getElem? ht
        have hall : ([25, 25].all fun u => !Tryz.prog.wantsStandIn u) = true := by kernel_rfl
        exact (show Tryz.prog.wantsStandIn t = false by simpa using List.all_eq_true.1 hall t hm)⟩)
    (by kernel_rfl)
#print axioms proved
end Go.Proofs.YtfhcefglefkakaaGreatDoor.needWithin
