/- Layer 31: the small calls; the map of readers; a plan's need. -/
import Derived.Test.YtfhcefglefkakaaGreatDoorSn3
import Derived.Test.YtfhcefglefkakaaGreatDoorPnh7
import Derived.Maps.OwnSet
import Derived.BigRegion
import Derived.Deep.RegionWith
namespace Go.Proofs.YtfhcefglefkakaaGreatDoor.Ne
open Go.ChangeShapes Go.WideShapes Go.ChangeAt Go.RowKit Go.Maps
open Go.Proofs.YtfhcefglefkakaaGreatDoor.Le Go.Proofs.YtfhcefglefkakaaGreatDoor.Tk Go.Proofs.YtfhcefglefkakaaGreatDoor.Sr Go.Proofs.YtfhcefglefkakaaGreatDoor.Sn
set_option linter.unusedVariables false

theorem smp_calls (W : World) : Calls Tryz.prog 34 #[.int .i64 255] W fun e w' => e = .returned (.int .i64 8) ∧ W = w' := by
  go_enter Tryz.func34, Tryz.ntmps34
  go_wp2
  go_ret
  exact ⟨rfl, rfl⟩
theorem col5_calls (W : World) : Calls Tryz.prog 35 #[.int .i64 5] W fun e w' => e = .returned (.bool false) ∧ W = w' := by
  go_enter Tryz.func35, Tryz.ntmps35
  go_wp2
  go_ret
  exact ⟨rfl, rfl⟩
theorem sd_cases (x : Int) : (1 ≤ x ∧ x ≤ 16384 ∧ decide (1 ≤ x) = true ∧ decide (x ≤ 16384) = true) ∨ (¬ (1 ≤ x ∧ x ≤ 16384) ∧ decide (1 ≤ x) = false) ∨ (¬ (1 ≤ x ∧ x ≤ 16384) ∧ decide (1 ≤ x) = true ∧ decide (x ≤ 16384) = false) := by
  by_cases h1 : 1 ≤ x
  · by_cases h2 : x ≤ 16384
    · exact .inl ⟨h1, h2, decide_eq_true h1, decide_eq_true h2⟩
    · exact .inr (.inr ⟨fun h => h2 h.2, decide_eq_true h1, decide_eq_false h2⟩)
  · exact .inr (.inl ⟨fun h => h1 h.1, decide_eq_false h1⟩)
theorem ct_cases (x : Int) : (0 ≤ x ∧ x ≤ 1099511627776 ∧ decide (0 ≤ x) = true ∧ decide (x ≤ 1099511627776) = true) ∨ (¬ (0 ≤ x ∧ x ≤ 1099511627776) ∧ decide (0 ≤ x) = false) ∨ (¬ (0 ≤ x ∧ x ≤ 1099511627776) ∧ decide (0 ≤ x) = true ∧ decide (x ≤ 1099511627776) = false) := by
  by_cases h1 : 0 ≤ x
  · by_cases h2 : x ≤ 1099511627776
    · exact .inl ⟨h1, h2, decide_eq_true h1, decide_eq_true h2⟩
    · exact .inr (.inr ⟨fun h => h2 h.2, decide_eq_true h1, decide_eq_false h2⟩)
  · exact .inr (.inl ⟨fun h => h1 h.1, decide_eq_false h1⟩)
theorem side_calls (x : Int) (W : World) : Calls Tryz.prog 10 #[.int .i64 x] W fun e w' => e = .returned (.bool (decide (1 ≤ x ∧ x ≤ 16384))) ∧ W = w' := by
  rcases sd_cases x with ⟨h1, h2, d1, d2⟩ | ⟨h, d1⟩ | ⟨h, d1, d2⟩
  · rw [decide_eq_true ⟨h1, h2⟩]
    clear h1 h2
    go_enter Tryz.func10, Tryz.ntmps10
    go_wp2
    go_ret
    exact ⟨rfl, rfl⟩
  all_goals
    rw [decide_eq_false h]
    clear h
    go_enter Tryz.func10, Tryz.ntmps10
    go_wp2
    go_ret
    exact ⟨rfl, rfl⟩
theorem count_calls (x : Int) (W : World) : Calls Tryz.prog 11 #[.int .i64 x] W fun e w' => e = .returned (.bool (decide (0 ≤ x ∧ x ≤ 1099511627776))) ∧ W = w' := by
  rcases ct_cases x with ⟨h1, h2, d1, d2⟩ | ⟨h, d1⟩ | ⟨h, d1, d2⟩
  · rw [decide_eq_true ⟨h1, h2⟩]
    clear h1 h2
    go_enter Tryz.func11, Tryz.ntmps11
    go_wp2
    go_ret
    exact ⟨rfl, rfl⟩
  all_goals
    rw [decide_eq_false h]
    clear h
    go_enter Tryz.func11, Tryz.ntmps11
    go_wp2
    go_ret
    exact ⟨rfl, rfl⟩

/-- An entry of a map's literal. -/
theorem wpList_insert_own {H : Type} {P : Program} (w : World) {ops : Array Oper} {rest : List Oper} {o : Oper} {a : Act} {Q : Exit → Act → World → Prop}
    (hg : o.guard = none) (m x v : Operand) (t : TypeId) (hop : o.op = Op.insert t m x v)
    (k e : TypeId) (K : Keyed P k) (ht : P.underlying t = some (.map k e)) (R : Value → Option (DataW H × List MemPlace)) (b n : Nat) (D : DataW H)
    (hm : a.eval m = .map (some b)) (hown : w.ownsMap P k R b n D) (hn : n < maxLen) (key val : Value) (kl : Lit) (hx : a.eval x = key) (hv : a.eval v = val) (hkey : keyOf P k key = some kl)
    (d : DataW H) (ps : List MemPlace) (hval : R val = some (d, ps))
    (hK : ∀ w', w'.ownsMap P k R b (n + 1) (D.put kl d) → w.grownBy w' (some b) → wpList P ops Q rest (a.put o.dst undef) w') :
    wpList P ops Q (o :: rest) a w := by
  refine wpList_plain hg fun K' hK' => ?_
  obtain ⟨w', hrun, r1, r2⟩ := hown.update K ht hn hkey hval
  unfold Oper.wp
  simp [execOp, hop, hm, hx, hv, hrun, Result.andThen]
  exact hK' _ _ (hK w' r1 r2)

/-- How a function reads in a map. -/
def heldR (v : Value) : Option (DataW Value × List MemPlace) := some (.held v, [])
def fnV (f : Nat) : Value := .func (.func f) #[] #[]
def DR : Nat → DataW Value
  | 0 => .map []
  | 1 => (DR 0).put (.int .i64 1) (.held (fnV 19))
  | 2 => (DR 1).put (.int .i64 2) (.held (fnV 20))
  | 3 => (DR 2).put (.int .i64 3) (.held (fnV 21))
  | 4 => (DR 3).put (.int .i64 4) (.held (fnV 22))
  | 5 => (DR 4).put (.int .i64 5) (.held (fnV 23))
  | 6 => (DR 5).put (.int .i64 6) (.held (fnV 24))
  | 7 => (DR 6).put (.int .i64 7) (.held (fnV 25))
  | 8 => (DR 7).put (.int .i64 8) (.held (fnV 26))
  | _ => .map []
theorem ilaw : Keyed Tryz.prog 3 := int_keyed Tryz.underlying3

end Go.Proofs.YtfhcefglefkakaaGreatDoor.Ne
