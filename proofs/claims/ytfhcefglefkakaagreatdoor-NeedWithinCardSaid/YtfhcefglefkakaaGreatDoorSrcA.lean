/- Layer 5's answers: numbers of bytes; and the chapter's example. -/
import Derived.Test.YtfhcefglefkakaaGreatDoorSrc5
namespace Go.Proofs.YtfhcefglefkakaaGreatDoor.Sr
open Go.ChangeShapes Go.WideShapes Go.ChangeAt Go.RowKit
open Go.Proofs.YtfhcefglefkakaaGreatDoor.Le
set_option linter.unusedVariables false

theorem num_lt (o : Bool) (z : ByteArray) (h : z.size ≤ 4) : numV o z < 4294967296 := acc_lt4 _ (by rw [ordd_len, ← Lib.size_eq]; exact h)

/-- A ledger of m steps of which n are done; nothing was refused. -/
def LW (m n : Int) : St := { w := 0, h := 0, b := 0, s := m, by_ := 0, pk := 0, st := n, r := 0, a := 0 }
theorem LW_ok {m n : Int} (hm : m ≤ 9223372036854775807) (n0 : 0 ≤ n) (nm : n ≤ m) : (LW m n).Ok :=
  ⟨by show (0 : Int) ≤ 0; decide, by show (0 : Int) ≤ _; decide, by show (0 : Int) ≤ 0; decide, by show (0 : Int) ≤ _; decide, by show (0 : Int) ≤ _; decide, hm, Int.le_refl _, Int.le_refl _, Int.le_refl _, n0, nm, by show (0 : Int) ≤ 0; decide, by show (0 : Int) ≤ 3; decide⟩
theorem LW_work {m n : Int} (h : n < m) : (LW m n).work 1 = (LW m (n + 1), true) := by
  unfold St.work
  rw [if_neg (by simp [LW]), if_neg (by simp only [LW]; omega)]
  simp [LW]
theorem LW_new {m : Int} (h : 0 ≤ m) : St.new 0 0 0 m = LW m 0 := by
  have e : pos m = m := by unfold pos; rw [if_neg (by omega)]
  have e0 : pos 0 = 0 := rfl
  simp [St.new, LW, e, e0]
theorem LW_rd {m k : Int} {p t : Nat} {n : Int} (h : k < m) (h0 : 0 ≤ n) (h1 : n ≤ (t : Int) - p) : rdB (LW m k) p t n = true := by
  unfold rdB
  rw [LW_work h]
  simp [canB, h0, h1]
theorem LW_out {m k : Int} {p t : Nat} {n : Int} (h : k < m) (h1 : n < 0 ∨ (t : Int) - p < n) : rdB (LW m k) p t n = false := by
  unfold rdB
  rw [LW_work h]
  rcases h1 with h1 | h1
  · simp [canB, show ¬ 0 ≤ n from by omega]
  · simp [canB, show ¬ n ≤ (t : Int) - p from by omega]

/-- A new ledger of m steps. -/
theorem wnew_calls (m : Int) (h0 : 0 ≤ m) (w : World) :
    Calls Tryz.prog 17 #[.agg #[.int .i64 0, .int .i64 0, .int .i64 0, .int .i64 m]] w
      fun e w' => ∃ b, e = .returned (.pointer (some ⟨b, 0, none⟩)) ∧ Led b (LW m 0).ls w' ∧ w.grownBy w' none ∧ w.heap.size ≤ b := by
  have h := new_calls 0 0 0 m w
  rwa [LW_new h0] at h

end Go.Proofs.YtfhcefglefkakaaGreatDoor.Sr
