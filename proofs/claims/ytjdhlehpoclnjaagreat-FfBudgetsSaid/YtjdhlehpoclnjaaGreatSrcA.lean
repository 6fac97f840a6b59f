/- Layer 5's answers: numbers of bytes; and the chapter's example. -/
import Derived.Test.YtjdhlehpoclnjaaGreatSrc5
namespace Go.Proofs.YtjdhlehpoclnjaaGreat.Sr
open Go.ChangeShapes Go.WideShapes Go.ChangeAt Go.RowKit
open Go.Proofs.YtjdhlehpoclnjaaGreat.Le
set_option linter.unusedVariables false

set_option maxRecDepth 100000 in
set_option maxHeartbeats 2000000 in
theorem rbe_calls (z : ByteArray) (w : World) (hz : z.size ≤ 4) :
    Calls Tryz.prog 35 #[.string z] w fun e w' => e = .returned (.int .i64 (numV true z)) ∧ w = w' := by
  have HL := Lib.hid (Lib.size_eq z)
  go_enter Tryz.func35, Tryz.ntmps35
  go_wp2_with fail
  go_loopg [3, 4] z.size (fun q vv iv wr => ∃ k : Nat, k ≤ z.size ∧ q = z.size - k ∧ vv = .int .i64 (acc ((ordd true z.data.toList).take k)) ∧ iv = .int .i64 k ∧ w = wr)
  case atStart => exact ⟨0, by omega, rfl, rfl, rfl, rfl⟩
  case round =>
    obtain ⟨k, hk, rfl, rfl, rfl, rfl⟩ := hrel
    by_cases hlt : k < z.size
    · have hl := HL.out
      have st := acc_step true z.data.toList k (by omega)
      have lt := Nat.lt_of_lt_of_le (acc_lt ((ordd true z.data.toList).take k)) (Nat.pow_le_pow_right (by decide) (show _ ≤ 3 from by rw [List.length_take]; omega))
      obtain ⟨v, hv⟩ : ∃ v, acc ((ordd true z.data.toList).take k) = v := ⟨_, rfl⟩
      rw [hv] at st lt ⊢
      have hi : nxt true z.data.toList.length k = k := rfl
      simp only [hi] at st
      rw [byte_at' z k hlt (by omega)] at st
      have b255 := (z[k]'hlt).toNat_lt
      obtain ⟨c, hcz⟩ : ∃ c, (z[k]'hlt).toNat = c := ⟨_, rfl⟩
      rw [hcz] at st b255
      have ST := Lib.hid st
      clear st hv hi hl
      go_wp2
      go_roundg (z.size - (k + 1))
      case measure => omega
      case rel => exact ⟨k + 1, by omega, rfl, by rw [ST.out]; go_num, by go_num, rfl⟩
    · have hl := HL.out
      have hkn : k = z.size := by omega
      have e1 : (ordd true z.data.toList).take k = ordd true z.data.toList := List.take_of_length_le (by rw [ordd_len]; omega)
      rw [e1]
      clear e1 hl
      go_wp2
      go_ret
      exact ⟨rfl, rfl⟩

theorem num_lt (o : Bool) (z : ByteArray) (h : z.size ≤ 4) : numV o z < 4294967296 := acc_lt4 _ (by rw [ordd_len, ← Lib.size_eq]; exact h)

/-- A ledger of m steps of which n are done; nothing was refused. -/
def LW (m n : Int) : St := { w := 0, h := 0, b := 0, s := m, by_ := 0, pk := 0, st := n, r := 0, a := 0 }
theorem LW_ok {m n : Int} (hm : m ≤ 9223372036854775807) (n0 : 0 ≤ n) (nm : n ≤ m) : (LW m n).Ok :=
  ⟨by show (0 : Int) ≤ 0; decide, by show (0 : Int) ≤ _; decide, by show (0 : Int) ≤ 0; decide, by show (0 : Int) ≤ _; decide, by show (0 : Int) ≤ _; decide, hm, Int.le_refl _, Int.le_refl _, Int.le_refl _, n0, nm, by show (0 : Int) ≤ 0; decide, by show (0 : Int) ≤ 3; decide⟩
theorem LW_work {m n : Int} (h : n < m) : (LW m n).work 1 = (LW m (n + 1), true) := by
  unfold St.work
  rw [if_neg (by simp [LW]), if_neg (by simp only [LW]; omega)]
  simp [LW]
theorem LW_new {m : Int} (h : 0 ≤ m) : St.new 0 0 0 m = LW m 0 := by
  have e : pos m = m := by unfold pos; rw [if_neg (by omega)]
  have e0 : pos 0 = 0 := rfl
  simp [St.new, LW, e, e0]
theorem LW_rd {m k : Int} {p t : Nat} {n : Int} (h : k < m) (h0 : 0 ≤ n) (h1 : n ≤ (t : Int) - p) : rdB (LW m k) p t n = true := by
  unfold rdB
  rw [LW_work h]
  simp [canB, h0, h1]
theorem LW_out {m k : Int} {p t : Nat} {n : Int} (h : k < m) (h1 : n < 0 ∨ (t : Int) - p < n) : rdB (LW m k) p t n = false := by
  unfold rdB
  rw [LW_work h]
  rcases h1 with h1 | h1
  · simp [canB, show ¬ 0 ≤ n from by omega]
  · simp [canB, show ¬ n ≤ (t : Int) - p from by omega]

/-- A new ledger of m steps. -/
theorem wnew_calls (m : Int) (h0 : 0 ≤ m) (w : World) :
    Calls Tryz.prog 36 #[.agg #[.int .i64 0, .int .i64 0, .int .i64 0, .int .i64 m]] w
      fun e w' => ∃ b, e = .returned (.pointer (some ⟨b, 0, none⟩)) ∧ Led b (LW m 0).ls w' ∧ w.grownBy w' none ∧ w.heap.size ≤ b := by
  have h := new_calls 0 0 0 m w
  rwa [LW_new h0] at h

end Go.Proofs.YtjdhlehpoclnjaaGreat.Sr
