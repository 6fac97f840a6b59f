/- Package stretch: how many bytes are alike; the closure that goes through a text's stretches. -/
import Derived.Test.YteimfjlogjdakaaRf1
import Derived.Test.YteimfjlogjdakaaSt0
import Derived.Deep.LoopGhost
import Derived.Deep.QuietTactic
import Derived.BigQuiet
namespace Go.Proofs.Yteimfjlogjdakaa.St
open Go.ChangeShapes Go.WideShapes Go.ChangeAt Go.RowKit Go.Shelf
open Go.Proofs.Yteimfjlogjdakaa.Le Go.Proofs.Yteimfjlogjdakaa.Rf
set_option linter.unusedVariables false

theorem bu_ex (s : ByteArray) (i j : Nat) (hi : i ≤ s.size) : bu (s.extract i s.size) j = bu s (i + j) := by
  unfold bu
  have hl : s.data.toList.length = s.size := (Lib.size_eq s).symm
  rw [Lib.extract_data, List.getD_eq_getElem?_getD, List.getD_eq_getElem?_getD]
  by_cases h : j < s.size - i
  · rw [List.getElem?_take_of_lt h, List.getElem?_drop]
  · rw [List.getElem?_eq_none (by rw [List.length_take]; omega), List.getElem?_eq_none (by omega)]
theorem ex_sz (s : ByteArray) (i : Nat) : (s.extract i s.size).size = s.size - i := by rw [ByteArray.size_extract]; omega
theorem SK.ex {s : ByteArray} {m i k : Nat} (hi : i ≤ s.size) (h : SK (s.extract i s.size) m 0 k) : SK s m i k := by
  refine ⟨h.k1, h.km, ?_, fun j hj => ?_, ?_⟩
  · have := h.le
    rw [ex_sz] at this
    omega
  · have h1 := h.same j hj
    rw [bu_ex s i _ hi, bu_ex s i _ hi, Nat.zero_add, Nat.add_zero] at h1
    exact h1
  · rcases h.stop with q | q | q
    · exact .inl q
    · rw [ex_sz] at q
      exact .inr (.inl (by omega))
    · rw [bu_ex s i _ hi, bu_ex s i _ hi, Nat.zero_add, Nat.add_zero] at q
      exact .inr (.inr q)
theorem min_of (l m : Nat) : ∃ M : Nat, min (l : Int) (m : Int) = (M : Int) ∧ M ≤ l ∧ M ≤ m ∧ (M = m ∨ M = l) := by
  by_cases h : (m : Int) < (l : Int)
  · exact ⟨m, by omega, by omega, Nat.le_refl _, .inl rfl⟩
  · exact ⟨l, by omega, Nat.le_refl _, by omega, .inr rfl⟩

set_option maxRecDepth 100000 in
set_option maxHeartbeats 1000000 in
theorem alike_calls (s : ByteArray) (m : Nat) (W : World) (h0 : 0 < s.size) (hm : 1 ≤ m) (hm2 : m ≤ 1000) (hs : s.size ≤ 1000000) :
    Calls Try.prog 18 #[.string s, .int .i64 m] W fun e w' => ∃ k : Nat, e = .returned (.int .i64 k) ∧ SK s m 0 k ∧ W.grownBy w' none := by
  obtain ⟨M, hM, hMl, hMm, hM2⟩ := min_of s.size m
  have HM2 := Lib.hid hM2
  have hM0 : 1 ≤ M := by omega
  have hz0 : (0 : Int) < (s.size : Int) := by omega
  clear hM2
  go_enter Try.func18, Try.ntmps18
  go_wp2
  go_loopg [5] M (fun q nv wr => ∃ k : Nat, 1 ≤ k ∧ k ≤ M ∧ q = M + 1 - k ∧ nv = .int .i64 (k : Int) ∧ (∀ j, j < k → bu s (0 + j) = bu s 0) ∧ W.grownBy wr none)
  case atStart => exact ⟨1, Nat.le_refl _, hM0, by omega, rfl, fun j hj => by rw [show 0 + j = 0 by omega], gb_refl _ _⟩
  case round =>
    obtain ⟨k, hk1, hkM, rfl, rfl, hall, g⟩ := hrel
    have HALL := Lib.hid hall
    have HG := Lib.hid g
    clear hall g
    by_cases hlt : k < M
    · have d1 : (k : Int) < (M : Int) := by omega
      have d2 : (k : Int) < (s.size : Int) := by omega
      have hks : k < s.size := by omega
      obtain ⟨z, hz⟩ : ∃ z, bu s k = z := ⟨_, rfl⟩
      obtain ⟨y, hy⟩ : ∃ z, bu s 0 = z := ⟨_, rfl⟩
      have ez := bu_nat s k hks hz
      have ey := bu_nat s 0 h0 hy
      have HZ := Lib.hid hz
      have HY := Lib.hid hy
      clear hz hy
      by_cases he : z = y
      · have e1 : ((z.toNat : Int) == (y.toNat : Int)) = true := by rw [he]; exact beq_self_eq_true _
        have HE := Lib.hid he
        clear he
        go_wp2_with fail
        go_quiet (fail)
        have HG1 := Lib.hid (gb_trans HG.out (gb_drewN wr nq none))
        go_wp2
        go_roundg (M + 1 - (k + 1))
        case measure => omega
        case rel => exact ⟨k + 1, by omega, by omega, rfl, by go_num, fun j hj => (by
          by_cases hjk : j < k
          · exact HALL.out j hjk
          · obtain rfl : j = k := by omega
            rw [Nat.zero_add, HZ.out, HY.out, HE.out]), HG1.out⟩
      · have e1 : ((z.toNat : Int) == (y.toNat : Int)) = false := by
          rw [beq_eq_false_iff_ne]
          intro e
          exact he (u_eq (by omega))
        have HE := Lib.hid he
        clear he
        go_wp2_with fail
        go_quiet (fail)
        have HG1 := Lib.hid (gb_trans HG.out (gb_drewN wr nq none))
        go_wp2
        go_ret
        exact ⟨k, rfl, ⟨hk1, by omega, by omega, HALL.out, .inr (.inr (by rw [Nat.zero_add, HZ.out, HY.out]; exact HE.out))⟩, HG1.out⟩
    · obtain rfl : k = M := by omega
      have d1 : ¬ (k : Int) < (k : Int) := by omega
      go_wp2_with fail
      go_quiet (fail)
      have HG1 := Lib.hid (gb_trans HG.out (gb_drewN wr nq none))
      go_wp2
      go_ret
      have h := HM2.out
      exact ⟨k, rfl, ⟨hk1, by omega, by omega, HALL.out, by omega⟩, HG1.out⟩

/-- The size of the text in a box. -/
def szAt (B : Nat) (w : World) : Nat := match w.cell? ⟨B, 0, none⟩ with
  | some (.string z) => z.size
  | _ => 0
theorem szAt_is {B : Nat} {w : World} {z : ByteArray} (h : w.cell? ⟨B, 0, none⟩ = some (.string z)) : szAt B w = z.size := by
  unfold szAt
  rw [h]

theorem all_calls (s : ByteArray) (m : Nat) (w : World) :
    Calls Try.prog 11 #[.string s, .int .i64 m] w fun e w' => e = .returned (.func (.func 17) #[] #[.pointer (some ⟨w.heap.size, 0, none⟩), .pointer (some ⟨w.heap.size + 1, 0, none⟩)]) ∧ w' = (w.alloc (.cells #[.string s] 9)).alloc (.cells #[.int .i64 m] 3) := by
  go_enter Try.func11, Try.ntmps11
  go_wp2
  go_ret
  exact ⟨rfl, rfl⟩

end Go.Proofs.Yteimfjlogjdakaa.St
