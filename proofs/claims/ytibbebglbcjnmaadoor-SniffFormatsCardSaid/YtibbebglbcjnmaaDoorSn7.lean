/- Layer 30: Named. -/
import Derived.Test.YtibbebglbcjnmaaDoorSn6
import Derived.Deep.RegionWith
import Derived.BigRegion
namespace Go.Proofs.YtibbebglbcjnmaaDoor.Sn
open Go.ChangeShapes Go.WideShapes Go.ChangeAt Go.RowKit Go.Maps
open Go.Proofs.YtibbebglbcjnmaaDoor.Le Go.Proofs.YtibbebglbcjnmaaDoor.Tk
set_option linter.unusedVariables false

/-- Block M tells what an ending names, from w on. -/
def LkM (M : Nat) (w : World) : Prop := ∀ u, w.grownBy u none → ∀ x : ByteArray, x.size ≤ maxLen → (Instr.lookup 39 (.map (some M)) (.string x) true).run Tryd.prog u = .ok (.tuple #[.int .i64 (look x.data.toList 14 : Nat), .bool (decide (look x.data.toList 14 ≠ 0))]) u
theorem endings_lk (W : World) (HT : OrdT W) : Calls Tryd.prog 29 #[] W fun e w' => ∃ M, e = .returned (.map (some M)) ∧ W.grownBy w' none ∧ LkM M w' := by
  refine (endings_calls W HT).mono ?_
  rintro e w' ⟨M, rfl, hown, g⟩
  refine ⟨M, rfl, g, fun u hu x hx => ?_⟩
  obtain ⟨v, ps, hrun, hv⟩ := (hown.kept hu (by simp)).look_ok mlaw Tryd.underlying39 (z := .int .i64 0) (by kernel_rfl) (plainElem_int Tryd.underlying3 (by decide)) (Go.WideMaps.keyOf_string_mk Tryd.underlying9 hx)
  obtain ⟨c, rfl, hc, _⟩ := plainElem_int_inv Tryd.underlying3 hv
  rw [DD_at] at hc
  simp only [Prod.mk.injEq, DataW.lit.injEq, Lit.int.injEq, true_and] at hc
  rw [hrun, DD_has, hc.1]

/-- What stands behind the last full stop, in small letters; the format that it names. -/
def endOf (s : ByteArray) : ByteArray := lowT (s.extract ((ldot s s.size).toNat + 1) s.size)
def nm (s : ByteArray) : Nat := if ldot s s.size < 0 then 0 else look (endOf s).data.toList 14

theorem tail_in (s : ByteArray) (lo : Nat) (h : lo ≤ s.size) (w : World) : (Instr.slice 9 (.string s) (some (.int .i64 (lo : Nat))) none none).run Tryd.prog w = .ok (.string (s.extract lo s.size)) w := by
  have ht' : Tryd.prog.underlying 9 = some .string := by kernel_rfl
  simp [Instr.slice, run_underlying ht', Instr.sliceBounds, run_sliceBound, Result.andThen, h]

set_option maxRecDepth 100000 in
set_option maxHeartbeats 4000000 in
theorem named_calls (s : ByteArray) (hs : s.size ≤ 1000) (W : World) (HT : OrdT W) : Calls Tryd.prog 13 #[.string s] W fun e w' => e = .returned (.tuple #[.int .i64 (nm s : Nat), .bool (decide (nm s ≠ 0))]) ∧ W.grownBy w' none := by
  have KL := fun u => lib_calls s (by omega) u
  have hbd := ldot_bd s s.size
  by_cases hneg : ldot s s.size < 0
  · have hn : nm s = 0 := by unfold nm; rw [if_pos hneg]
    rw [hn]
    have e1 : decide (ldot s s.size < (0 : Int)) = true := decide_eq_true hneg
    obtain ⟨D, hD⟩ : ∃ D, ldot s s.size = D := ⟨_, rfl⟩
    rw [hD] at KL e1
    have KL := Lib.hid KL
    clear hD hbd hneg hn
    go_enter Tryd.func13, Tryd.ntmps13
    go_wp2_with fail
    refine (KL.out _).mono ?_
    rintro e w' ⟨rfl, rfl⟩
    go_wp2
    refine bodyPost_ret (v := .tuple #[.int .i64 (0 : Nat), .bool (decide ((0 : Nat) ≠ 0))]) (by simp only [results, Tryd.results13]; go_simp) rfl ⟨rfl, grf _ _⟩
  · obtain ⟨d, hd⟩ : ∃ d : Nat, ldot s s.size = d := ⟨(ldot s s.size).toNat, by omega⟩
    have hn : nm s = look (lowT (s.extract (d + 1) s.size)).data.toList 14 := by unfold nm endOf; rw [if_neg hneg, hd]; rfl
    rw [hn]
    rw [hd] at KL hbd
    have e1 : decide ((d : Int) < (0 : Int)) = false := decide_eq_false (by omega)
    have hsl : ∀ w, (Instr.slice 9 (.string s) (some (.int .i64 ((d : Int) + 1))) none none).run Tryd.prog w = .ok (.string (s.extract (d + 1) s.size)) w := tail_in s (d + 1) (by omega)
    have hz : (s.extract (d + 1) s.size).size ≤ 1000 := by rw [ByteArray.size_extract]; omega
    have KS := fun u => small_calls (s.extract (d + 1) s.size) hz u
    have hlz : (lowT (s.extract (d + 1) s.size)).size ≤ maxLen := by
      have : (lowT (s.extract (d + 1) s.size)).size = (s.extract (d + 1) s.size).size := (show (s.extract (d + 1) s.size |>.data.toList.map fun b => UInt8.ofNat (lowB b.toNat)).toArray.size = _ by rw [List.size_toArray, lowT_len])
      unfold maxLen
      omega
    obtain ⟨y, hy⟩ : ∃ y, s.extract (d + 1) s.size = y := ⟨_, rfl⟩
    rw [hy] at KS hsl hlz ⊢
    obtain ⟨z, hzz⟩ : ∃ z, lowT y = z := ⟨_, rfl⟩
    rw [hzz] at KS hlz ⊢
    have hw : IntKind.i64.wrap ((d : Int) + 1) = (d : Int) + 1 := IntWalk.i64_in _ (by omega)
    have KL := Lib.hid KL
    have KS := Lib.hid KS
    have KE := Lib.hid (fun u (g : W.grownBy u none) => endings_lk u (HT.grown g (fun b e => by cases e)))
    have HLZ := Lib.hid hlz
    clear hd hn hy hzz hneg hbd hz hlz HT
    obtain ⟨F, hF⟩ : ∃ F, look z.data.toList 14 = F := ⟨_, rfl⟩
    have HF := Lib.hid hF
    rw [hF]
    clear hF
    go_enter Tryd.func13, Tryd.ntmps13
    go_wp2_with fail
    refine (KL.out _).mono ?_
    rintro e w' ⟨rfl, rfl⟩
    clear KL
    go_wp2_with fail
    go_region_with (first
      | (go_at_call 29; refine (KE.out _ (by first | exact HG2.out | exact gb_drew _ _ | exact grf _ _)).mono ?_; rintro e w1 ⟨M, rfl, g1, hk1⟩; have HK1 := Lib.hid hk1; have HG1 := Lib.hid (show W.grownBy w1 none from by first | exact gb_trans HG2.out g1 | exact gb_trans (gb_drew _ _) g1 | exact g1); have hlk1 := hk1 w1 (grf _ _) z HLZ.out; rw [HF.out] at hlk1; clear g1 hk1)
      | (go_at_call 30; refine (KS.out _).mono ?_; rintro e w2 ⟨rfl, g2⟩; have HG2 := Lib.hid (show W.grownBy w2 none from by first | exact gb_trans HG1.out g2 | exact gb_trans (gb_drew _ _) g2 | exact g2); try (have hlk2 := HK1.out w2 g2 z HLZ.out; rw [HF.out] at hlk2); clear g2))
    all_goals
      go_wp2
      refine bodyPost_ret (v := .tuple #[.int .i64 (F : Nat), .bool (!decide (F = 0))]) (by simp only [results, Tryd.results13]; go_simp) rfl ⟨by simp, ?_⟩
      first
        | exact HG2.out
        | exact HG1.out

end Go.Proofs.YtibbebglbcjnmaaDoor.Sn
