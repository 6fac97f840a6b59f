/- Package ledger: giving back, sides, the first refusal told, the budget, a new ledger. -/
import Derived.Test.YtfhcefglefkakaaGreatDoorLed4
namespace Go.Proofs.YtfhcefglefkakaaGreatDoor.Le
open Go.ChangeShapes Go.WideShapes Go.ChangeAt Go.RowKit
set_option linter.unusedVariables false

def pos (v : Int) : Int := if v < 0 then 0 else v
def St.new (w h b s : Int) : St := { w := pos w, h := pos h, b := pos b, s := pos s, by_ := 0, pk := 0, st := 0, r := 0, a := 0 }
theorem pos_le {v m : Int} (hm : 0 ≤ m) (h : v ≤ m) : 0 ≤ pos v ∧ pos v ≤ m := by unfold pos; split <;> omega
theorem St.new_ok {w h b s : Int} (hw : w ≤ 9223372036854775807) (hh : h ≤ 9223372036854775807) (hb : b ≤ 9223372036854775807) (hs : s ≤ 9223372036854775807) : (St.new w h b s).Ok :=
  ⟨(pos_le (by decide) hw).1, (pos_le (by decide) hw).2, (pos_le (by decide) hh).1, (pos_le (by decide) hh).2, (pos_le (by decide) hb).2, (pos_le (by decide) hs).2,
    Int.le_refl _, Int.le_refl _, (pos_le (by decide) hb).1, Int.le_refl _, (pos_le (by decide) hs).1, by show (0 : Int) ≤ 0; decide, by show (0 : Int) ≤ 3; decide⟩

theorem blk_new (w : World) (C : Array Value) (t : TypeId) : (w.alloc (.cells C t)).heap[w.heap.size]? = some (.cells C t (0, 0)) := by
  show (w.heap.push _)[w.heap.size]? = _
  rw [Array.getElem?_push_size]

theorem new_led (w : World) (o : Obj) (C : Array Value) (S : LS) (e : C = S.cells) : Led (w.heap.size + 1) S ((w.alloc o).alloc (.cells C 74)) := by
  have h := blk_new (w.alloc o) C 74
  rw [show (w.alloc o).heap.size = w.heap.size + 1 from by show (w.heap.push o).size = _; simp] at h
  rw [e] at h
  exact e ▸ h

theorem new_calls (p q r s : Int) (w : World) :
    Calls Tryz.prog 17 #[.agg #[.int .i64 p, .int .i64 q, .int .i64 r, .int .i64 s]] w
      fun e w' => ∃ b, e = .returned (.pointer (some ⟨b, 0, none⟩)) ∧ Led b (St.new p q r s).ls w' ∧ w.grownBy w' none ∧ w.heap.size ≤ b := by
  go_enter Tryz.func17, Tryz.ntmps17
  go_wp2
  all_goals go_ret
  all_goals refine ⟨w.heap.size + 1, rfl, ?_, gb_trans (World.grownBy_alloc _ _ _) (World.grownBy_alloc _ _ _), by omega⟩
  all_goals refine new_led _ _ _ _ ?_
  all_goals simp [LS.cells, St.ls, St.new, pos, *]
  all_goals omega
end Go.Proofs.YtfhcefglefkakaaGreatDoor.Le
