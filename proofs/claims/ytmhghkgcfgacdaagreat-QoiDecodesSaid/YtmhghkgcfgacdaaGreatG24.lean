/- Texts of one kind, one behind the other: Qw1. -/
import Derived.Lib.Hide
import Derived.Test.YtmhghkgcfgacdaaGreatG07
/- Layer 26: the small calls: a pixel's place among the seen ones (of the code and of the document), a difference within its bounds. -/
namespace Go.Proofs.YtmhghkgcfgacdaaGreat.Qw
open Go.ChangeShapes Go.WideShapes Go.ChangeAt Go.RowKit Go.Proofs.YtmhghkgcfgacdaaGreat.Le
set_option linter.unusedVariables false

def cQ (r g b a : Nat) : Value := .agg #[.int .u8 r, .int .u8 g, .int .u8 b, .int .u8 a]
/-- A pixel's place. -/
def plQ (r g b a : Nat) : Nat := (3 * r + 5 * g + 7 * b + 11 * a) % 64
theorem plQ_lt (r g b a : Nat) : plQ r g b a < 64 := Nat.mod_lt _ (by decide)

theorem place_calls (r g b a : Nat) (hr : r < 256) (hg : g < 256) (hb : b < 256) (ha : a < 256) (W : World) :
    Calls Tryz.prog 79 #[cQ r g b a] W fun e w' => e = .returned (.int .i64 (plQ r g b a : Nat)) ∧ W.grownBy w' none := by
  have hR : ((plQ r g b a : Nat) : Int) = ((r : Int) * 3 + (g : Int) * 5 + (b : Int) * 7 + (a : Int) * 11) % 64 := by
    unfold plQ
    omega
  have w1 : IntKind.i64.wrap ((r : Int) * 3) = (r : Int) * 3 := IntWalk.i64_in _ (by omega)
  have w2 : IntKind.i64.wrap ((g : Int) * 5) = (g : Int) * 5 := IntWalk.i64_in _ (by omega)
  have w3 : IntKind.i64.wrap ((b : Int) * 7) = (b : Int) * 7 := IntWalk.i64_in _ (by omega)
  have w4 : IntKind.i64.wrap ((a : Int) * 11) = (a : Int) * 11 := IntWalk.i64_in _ (by omega)
  have w5 : IntKind.i64.wrap ((r : Int) * 3 + (g : Int) * 5) = (r : Int) * 3 + (g : Int) * 5 := IntWalk.i64_in _ (by omega)
  have w6 : IntKind.i64.wrap ((r : Int) * 3 + (g : Int) * 5 + (b : Int) * 7) = (r : Int) * 3 + (g : Int) * 5 + (b : Int) * 7 := IntWalk.i64_in _ (by omega)
  have w7 : IntKind.i64.wrap ((r : Int) * 3 + (g : Int) * 5 + (b : Int) * 7 + (a : Int) * 11) = (r : Int) * 3 + (g : Int) * 5 + (b : Int) * 7 + (a : Int) * 11 := IntWalk.i64_in _ (by omega)
  have HR := Lib.hid hR
  unfold cQ
  clear hR
  go_enter Tryz.func79, Tryz.ntmps79
  go_wp2
  go_ret
  exact ⟨by rw [HR.out]; rfl, World.grownBy_alloc _ _ _⟩

theorem rplace_calls (r g b a : Nat) (hr : r < 256) (hg : g < 256) (hb : b < 256) (ha : a < 256) (W : World) :
    Calls Tryz.prog 32 #[cQ r g b a] W fun e w' => e = .returned (.int .i64 (plQ r g b a : Nat)) ∧ W.grownBy w' none := by
  have hR : ((plQ r g b a : Nat) : Int) = (3 * (r : Int) + 5 * (g : Int) + 7 * (b : Int) + 11 * (a : Int)) % 64 := by
    unfold plQ
    omega
  have w1 : IntKind.i64.wrap (3 * (r : Int)) = 3 * (r : Int) := IntWalk.i64_in _ (by omega)
  have w2 : IntKind.i64.wrap (5 * (g : Int)) = 5 * (g : Int) := IntWalk.i64_in _ (by omega)
  have w3 : IntKind.i64.wrap (7 * (b : Int)) = 7 * (b : Int) := IntWalk.i64_in _ (by omega)
  have w4 : IntKind.i64.wrap (11 * (a : Int)) = 11 * (a : Int) := IntWalk.i64_in _ (by omega)
  have w5 : IntKind.i64.wrap (3 * (r : Int) + 5 * (g : Int)) = 3 * (r : Int) + 5 * (g : Int) := IntWalk.i64_in _ (by omega)
  have w6 : IntKind.i64.wrap (3 * (r : Int) + 5 * (g : Int) + 7 * (b : Int)) = 3 * (r : Int) + 5 * (g : Int) + 7 * (b : Int) := IntWalk.i64_in _ (by omega)
  have w7 : IntKind.i64.wrap (3 * (r : Int) + 5 * (g : Int) + 7 * (b : Int) + 11 * (a : Int)) = 3 * (r : Int) + 5 * (g : Int) + 7 * (b : Int) + 11 * (a : Int) := IntWalk.i64_in _ (by omega)
  have HR := Lib.hid hR
  unfold cQ
  clear hR
  go_enter Tryz.func32, Tryz.ntmps32
  go_wp2
  go_ret
  exact ⟨by rw [HR.out]; rfl, World.grownBy_alloc _ _ _⟩

/-- A difference lies within its bounds. -/
def wiB (d z : Int) : Bool := decide (-z ≤ d) && decide (d < z)
theorem within_calls (d z : Int) (hz : z = 2 ∨ z = 8 ∨ z = 32) (W : World) :
    Calls Tryz.prog 81 #[.int .i8 d, .int .i8 z] W fun e w' => e = .returned (.bool (wiB d z)) ∧ W = w' := by
  unfold wiB
  rcases hz with rfl | rfl | rfl
  all_goals
    go_enter Tryz.func81, Tryz.ntmps81
    go_wp2
    all_goals
      go_ret
      refine ⟨?_, rfl⟩
      simp_all
      try omega

end Go.Proofs.YtmhghkgcfgacdaaGreat.Qw
