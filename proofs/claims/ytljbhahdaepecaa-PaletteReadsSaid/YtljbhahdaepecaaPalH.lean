/- Layer 10: a palette in memory; New; PaletteNew, walked. -/
import Derived.Test.YtljbhahdaepecaaPalE
import Derived.Test.YtljbhahdaepecaaBuf7
namespace Go.Proofs.Ytljbhahdaepecaa.Pa
open Go.ChangeShapes Go.WideShapes Go.ChangeAt Go.RowKit
open Go.Proofs.Ytljbhahdaepecaa.Sc Go.Proofs.Ytljbhahdaepecaa.Le
set_option linter.unusedVariables false

/-- The cells of a palette whose bytes are buffer b, and which has n entries. -/
def palCells (b : Nat) (n : Int) : Array Value := #[.pointer (some ⟨b, 0, none⟩), .int .i64 n]

theorem new_arg (most : Int) (W : World) : Calls Try.prog 13 #[.pointer none, .int .i64 most] W fun e w' => e = .returned (.tuple #[.pointer none, .int .i64 1]) ∧ W = w' := by
  go_enter Try.func13, Try.ntmps13
  go_wp2
  go_ret2
  exact ⟨rfl, rfl⟩

theorem new_range (l : Nat) (most : Int) (W : World) (h : most < 1 ∨ 65536 < most) : Calls Try.prog 13 #[.pointer (some ⟨l, 0, none⟩), .int .i64 most] W fun e w' => e = .returned (.tuple #[.pointer none, .int .i64 2]) ∧ W = w' := by
  by_cases h1 : most < 1
  · clear h
    go_enter Try.func13, Try.ntmps13
    go_wp2
    go_ret2
    exact ⟨rfl, rfl⟩
  · have h2 : 65536 < most := by omega
    clear h
    go_enter Try.func13, Try.ntmps13
    go_wp2
    go_ret2
    exact ⟨rfl, rfl⟩

theorem new_spent (l : Nat) (x : St) (most : Nat) (W : World) (h : Led l x.ls W) (ok : x.Ok) (h1 : 1 ≤ most) (h2 : most ≤ 65536) (hr : (x.take ((4 * most : Nat) : Int)).2 = false) :
    Calls Try.prog 13 #[.pointer (some ⟨l, 0, none⟩), .int .i64 most] W
      fun e w' => e = .returned (.tuple #[.pointer none, .int .i64 4]) ∧ Led l (x.take ((4 * most : Nat) : Int)).1.ls w' ∧ W.grownBy w' (some l) := by
  have K := Bu.make_spent l x ((4 * most : Nat) : Int) W h ok (by omega) hr
  have e4 : ((4 * most : Nat) : Int) = 4 * (most : Int) := by omega
  rw [e4] at K ⊢
  obtain ⟨L, hL⟩ : ∃ L, (x.take (4 * (most : Int))).1.ls = L := ⟨_, rfl⟩
  rw [hL] at K ⊢
  have K' := Lib.hid K
  clear K h ok hr e4 hL
  go_enter Try.func13, Try.ntmps13
  go_wp2_with fail
  refine K'.out.mono ?_
  rintro e w1 ⟨rfl, h1, g1⟩
  have H := Lib.hid (And.intro h1 g1)
  clear h1 g1
  go_wp2
  go_ret2
  exact ⟨rfl, H.out⟩

theorem new_yes (l : Nat) (x : St) (most : Nat) (W : World) (h : Led l x.ls W) (ok : x.Ok) (h1 : 1 ≤ most) (h2 : most ≤ 65536) (hr : (x.take ((4 * most : Nat) : Int)).2 = true) :
    Calls Try.prog 13 #[.pointer (some ⟨l, 0, none⟩), .int .i64 most] W
      fun e w' => ∃ p b g, e = .returned (.tuple #[.pointer (some ⟨p, 0, none⟩), .int .i64 0]) ∧ (w'.heap[p]? = some (.cells (palCells b 0) 82 (0, 0)) ∧ Bu.BOpen b l g (Bu.rep 0 (4 * most)) w' ∧ Led l (x.take ((4 * most : Nat) : Int)).1.ls w') ∧ W.grownBy w' (some l) ∧ W.heap.size ≤ p ∧ W.heap.size ≤ b ∧ W.heap.size ≤ g ∧ p ≠ b ∧ p ≠ g := by
  have K := Bu.make_yes l x (4 * most) W h ok (by omega) hr
  have hl := h.lt
  have e4 : ((4 * most : Nat) : Int) = 4 * (most : Int) := by omega
  rw [e4] at K ⊢
  obtain ⟨L, hL⟩ : ∃ L, (x.take (4 * (most : Int))).1.ls = L := ⟨_, rfl⟩
  rw [hL] at K ⊢
  have K' := Lib.hid K
  clear K h ok hr e4 hL
  go_enter Try.func13, Try.ntmps13
  go_wp2_with fail
  refine K'.out.mono ?_
  rintro e w1 ⟨b, g, rfl, ⟨ho, hL⟩, g1, hb, hg⟩
  have HO := Lib.hid ho
  have HL := Lib.hid hL
  have HG := Lib.hid g1
  have hbl := ho.lt
  have hgl := ho.glt
  clear ho hL g1
  go_wp2
  go_ret2
  have ga := World.grownBy_alloc w1 (.cells #[.pointer (some ⟨b, 0, none⟩), .int .i64 0] 82) none
  exact ⟨w1.heap.size, b, g, rfl, ⟨blk_at, HO.out.grown ga (by simp) (by simp), HL.out.grown ga (by simp)⟩, gb_trans HG.out (gb_any ga _), HG.out.size, hb, hg, by omega, by omega⟩

end Go.Proofs.Ytljbhahdaepecaa.Pa
