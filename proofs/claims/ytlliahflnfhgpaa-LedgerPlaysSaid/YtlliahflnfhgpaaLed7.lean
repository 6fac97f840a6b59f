/- The chapter's example of layer 2, walked. -/
import Derived.Test.YtlliahflnfhgpaaLed6
namespace Go.Proofs.Ytlliahflnfhgpaa.Le
open Go.ChangeShapes Go.WideShapes Go.ChangeAt Go.RowKit
set_option linter.unusedVariables false

/-- A block that the call has made itself may turn. -/
theorem gb_own {a b c : World} {k : Nat} (h : a.grownBy b none) (hk : a.heap.size ≤ k) (g : b.grownBy c (some k)) : a.grownBy c none :=
  ⟨g.os.trans h.os, g.tape.trans h.tape, g.output.trans h.output, Nat.le_trans h.size g.size,
    fun i hi _ => (g.block i (Nat.lt_of_lt_of_le hi h.size) (by simp; omega)).trans (h.block i hi (by simp))⟩

def A0 : St := { w := 0, h := 0, b := 10, s := 0, by_ := 0, pk := 0, st := 0, r := 0, a := 0 }
def A1 : St := { w := 0, h := 0, b := 10, s := 0, by_ := 8, pk := 8, st := 0, r := 0, a := 0 }
def A2 : St := { w := 0, h := 0, b := 10, s := 0, by_ := 8, pk := 8, st := 0, r := 2, a := 3 }
def A3 : St := { w := 0, h := 0, b := 10, s := 0, by_ := 0, pk := 8, st := 0, r := 2, a := 3 }
theorem a0_new : St.new 0 0 10 0 = A0 := rfl
theorem a0_take : A0.take 8 = (A1, true) := rfl
theorem a1_take : A1.take 3 = (A2, false) := rfl
theorem a2_take : A2.take 1 = (A2, false) := rfl
theorem a2_give : A2.give 8 = (A3, true) := rfl
theorem a0_ok : A0.Ok := St.new_ok (w := 0) (h := 0) (b := 10) (s := 0) (by decide) (by decide) (by decide) (by decide)
theorem a1_ok : A1.Ok := by have := a0_ok.take 8; rwa [a0_take] at this
theorem a2_ok : A2.Ok := by have := a1_ok.take 3; rwa [a1_take] at this

theorem ex0 (w : World) : Calls Try.prog 6 #[.agg #[.int .i64 0, .int .i64 0, .int .i64 10, .int .i64 0]] w
    fun e w' => ∃ b, e = .returned (.pointer (some ⟨b, 0, none⟩)) ∧ Led b A0.ls w' ∧ w.grownBy w' none ∧ w.heap.size ≤ b := by
  have h := new_calls 0 0 10 0 w
  rwa [a0_new] at h
theorem ex1 (b : Nat) (w : World) (h : Led b A0.ls w) : Calls Try.prog 11 #[.pointer (some ⟨b, 0, none⟩), .int .i64 8] w
    fun e w' => e = .returned (.bool true) ∧ Led b A1.ls w' ∧ w.grownBy w' (some b) := by
  have h := take_calls b A0 8 w h a0_ok
  rwa [a0_take] at h
theorem ex2 (b : Nat) (w : World) (h : Led b A1.ls w) : Calls Try.prog 11 #[.pointer (some ⟨b, 0, none⟩), .int .i64 3] w
    fun e w' => e = .returned (.bool false) ∧ Led b A2.ls w' ∧ w.grownBy w' (some b) := by
  have h := take_calls b A1 3 w h a1_ok
  rwa [a1_take] at h
theorem ex3 (b : Nat) (w : World) (h : Led b A2.ls w) : Calls Try.prog 11 #[.pointer (some ⟨b, 0, none⟩), .int .i64 1] w
    fun e w' => e = .returned (.bool false) ∧ Led b A2.ls w' ∧ w.grownBy w' (some b) := by
  have h := take_calls b A2 1 w h a2_ok
  rwa [a2_take] at h
theorem ex4 (b : Nat) (w : World) (h : Led b A2.ls w) : Calls Try.prog 13 #[.pointer (some ⟨b, 0, none⟩), .int .i64 8] w
    fun e w' => e = .returned (.bool true) ∧ Led b A3.ls w' ∧ w.grownBy w' (some b) := by
  have h := give_calls b A2 8 w h a2_ok
  rwa [a2_give] at h
theorem ex5 (b : Nat) (w : World) (h : Led b A3.ls w) : Calls Try.prog 17 #[.pointer (some ⟨b, 0, none⟩)] w
    fun e w' => e = .returned (.tuple #[.agg #[.int .i64 2, .int .i64 3], .bool true]) ∧ w.grownBy w' none :=
  first_calls b A3 w h (fun h => by cases h)

theorem awake_calls (w : World) : Calls Try.prog 22 #[] w fun e w' => e = .returned (.bool true) ∧ w.grownBy w' none := by
  go_enter Try.func22, Try.ntmps22
  go_wp2_with fail
  refine (ex0 _).mono ?_
  rintro e w0 ⟨b, rfl, L0, g0, hb⟩
  have H0 := Lib.hid L0
  have G0 := Lib.hid g0
  clear L0 g0
  go_wp2_with fail
  refine (ex1 b _ H0.out).mono ?_
  rintro e w1 ⟨rfl, L1, g1⟩
  have H1 := Lib.hid L1
  have G1 := Lib.hid (gb_own G0.out hb g1)
  clear L1 g1 H0 G0
  go_wp2_with fail
  refine (ex2 b _ H1.out).mono ?_
  rintro e w2 ⟨rfl, L2, g2⟩
  have H2 := Lib.hid L2
  have G2 := Lib.hid (gb_own G1.out hb g2)
  clear L2 g2 H1 G1
  go_wp2_with fail
  refine (ex3 b _ H2.out).mono ?_
  rintro e w3 ⟨rfl, L3, g3⟩
  have H3 := Lib.hid L3
  have G3 := Lib.hid (gb_own G2.out hb g3)
  clear L3 g3 H2 G2
  go_wp2_with fail
  refine (ex4 b _ H3.out).mono ?_
  rintro e w4 ⟨rfl, L4, g4⟩
  have H4 := Lib.hid L4
  have G4 := Lib.hid (gb_own G3.out hb g4)
  clear L4 g4 H3 G3
  go_wp2_with fail
  refine (ex5 b _ H4.out).mono ?_
  rintro e w5 ⟨rfl, g5⟩
  have H5 := Lib.hid (H4.out.grown g5 (by simp))
  have G5 := Lib.hid (gb_trans G4.out g5)
  clear g5 H4 G4
  have K1 := Lib.hid (peak_calls b A3.ls _ (H5.out.alloc (.cells #[.int .i64 2, .int .i64 3] 39)))
  have K2 := Lib.hid (broken_calls b A3.ls _ (H5.out.alloc (.cells #[.int .i64 2, .int .i64 3] 39)))
  have e1 : A3.ls.pk = 8 := rfl
  have e2 : (A3.ls.br != 0) = true := rfl
  go_wp2_with (first | (go_at_call 19; refine K1.out.mono ?_; rintro e w' ⟨rfl, rfl⟩) | (go_at_call 21; refine K2.out.mono ?_; rintro e w' ⟨rfl, rfl⟩))
  go_ret
  exact ⟨rfl, gb_trans G5.out (World.grownBy_alloc _ _ _)⟩

end Go.Proofs.Ytlliahflnfhgpaa.Le
