/- Texts of one kind, one behind the other: Qd3. -/
import Derived.Test.YtmhghkgcfgacdaaGreatG18
/- Layer 26: how many steps a text takes at most, and which faults there are. -/
namespace Go.Proofs.YtmhghkgcfgacdaaGreat.Qo
open Go.ChangeShapes Go.WideShapes Go.ChangeAt Go.RowKit
open Go.Proofs.YtmhghkgcfgacdaaGreat.Le Go.Proofs.YtmhghkgcfgacdaaGreat.Tk Go.Proofs.YtmhghkgcfgacdaaGreat.Sr Go.Proofs.YtmhghkgcfgacdaaGreat.Sh Go.Proofs.YtmhghkgcfgacdaaGreat.Qw
open Go.Proofs.YtmhghkgcfgacdaaGreat.Ra hiding bt
set_option linter.unusedVariables false

theorem rdn_2 (b : Nat) : rdn b ≤ 2 := by unfold rdn; split <;> omega
theorem sq_N (s : ByteArray) : ∀ j, (sq s j).N ≤ 3 * (sq s j).i
  | 0 => Nat.le_refl _
  | j + 1 => by
    have h1 := sq_N s j
    have h2 : (sq s (j + 1)).N = (sq s j).N + rdn (bt s (sq s j).p) + tms (bt s (sq s j).p) := rfl
    have h3 : (sq s (j + 1)).i = (sq s j).i + tms (bt s (sq s j).p) := rfl
    have h4 := rdn_2 (bt s (sq s j).p)
    have h5 := tms_1 (bt s (sq s j).p)
    omega
theorem QE.f3 {s : ByteArray} {n J f p N : Nat} (h : QE s n J f p N) : f ≤ 3 ∧ N ≤ 3 * n + 8 := by
  have h1 := sq_N s J
  rcases h.ed with ⟨h2, k, _, h3⟩ | h2 | h2 | h2
  · rcases h3 with h3 | h3 | h3 <;> omega
  · omega
  · omega
  · omega
theorem cl_f {s : ByteArray} {v : TV} (C : Cl s v) : v.f ≤ 3 := by
  cases C with
  | short h => exact (by decide : (1 : Nat) ≤ 3)
  | bad K h14 M hk => exact kdS_le _ _ _ _
  | chan h14 M hk h3 h4 => exact (by decide : (2 : Nat) ≤ 3)
  | space h14 M hk hc hs => exact (by decide : (2 : Nat) ≤ 3)
  | pix n w h J f p N h14 M ew eh hk hc hs hn E => exact E.f3.1
theorem cl_N {s : ByteArray} {v : TV} (C : Cl s v) : v.N ≤ 3 * (v.w * v.h) + 9 := by
  cases C with
  | short h => exact (by decide : (1 : Nat) ≤ 3 * (0 * 0) + 9)
  | bad K h14 M hk => exact (by decide : (1 : Nat) ≤ 3 * (0 * 0) + 9)
  | chan h14 M hk h3 h4 => exact (by decide : (1 : Nat) ≤ 3 * (0 * 0) + 9)
  | space h14 M hk hc hs => exact (by decide : (1 : Nat) ≤ 3 * (0 * 0) + 9)
  | pix n w h J f p N h14 M ew eh hk hc hs hn E =>
    have := E.f3.2
    show 1 + N ≤ 3 * (w * h) + 9
    rw [hn]
    omega

theorem wide_calls (W : World) : Calls Tryz.prog 8 #[] W fun e w' => e = .returned (.agg #[.int .i64 16384, .int .i64 16384, .int .i64 262144, .int .i64 1048576]) ∧ W.grownBy w' none := by
  go_enter Tryz.func8, Tryz.ntmps8
  go_wp2
  refine bodyPost_ret (v := .agg #[.int .i64 16384, .int .i64 16384, .int .i64 262144, .int .i64 1048576]) (by simp only [results, Tryz.results8]; go_simp) rfl ?_
  exact ⟨rfl, World.grownBy_alloc _ _ _⟩

end Go.Proofs.YtmhghkgcfgacdaaGreat.Qo
