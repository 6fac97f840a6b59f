/- Texts of one kind, one behind the other: Qe1. -/
import Derived.BigRegion
import Derived.Deep.RegionHeld3
import Derived.Deep.RegionWith
import Derived.Test.YtmhghkgcfgacdaaGreatG18
import Derived.Test.YtmhghkgcfgacdaaGreatG25
import Derived.Test.YtmhghkgcfgacdaaGreatG26
/- Layer 26: the document's Step (written by wip/gen/qe1.py). -/
namespace Go.Proofs.YtmhghkgcfgacdaaGreat.Qo
open Go.ChangeShapes Go.WideShapes Go.ChangeAt Go.RowKit
open Go.Proofs.YtmhghkgcfgacdaaGreat.Le Go.Proofs.YtmhghkgcfgacdaaGreat.Tk Go.Proofs.YtmhghkgcfgacdaaGreat.Sr Go.Proofs.YtmhghkgcfgacdaaGreat.Sh Go.Proofs.YtmhghkgcfgacdaaGreat.Qw
open Go.Proofs.YtmhghkgcfgacdaaGreat.Ra hiding bt
set_option linter.unusedVariables false

theorem radd_calls (v : Nat) (d : Int) (hv : v < 256) (hd : -512 ≤ d ∧ d ≤ 100000) (W : World) : Calls Tryz.prog 52 #[.int .u8 v, .int .i64 d] W fun e w' => e = .returned (.int .u8 (adm v d : Nat)) ∧ W = w' := by
  have h1 : ((adm v d : Nat) : Int) = ((v : Int) + d + 512) % 256 := by unfold adm; omega
  rw [h1]
  have w1 : IntKind.i64.wrap ((v : Int) + d) = (v : Int) + d := IntWalk.i64_in _ (by omega)
  have w2 : IntKind.i64.wrap ((v : Int) + d + 512) = (v : Int) + d + 512 := IntWalk.i64_in _ (by omega)
  have m0 : ((v : Int) + d + 512).tmod 256 = ((v : Int) + d + 512) % 256 := Int.tmod_eq_emod_of_nonneg (by omega)
  obtain ⟨z, hz⟩ : ∃ z, ((v : Int) + d + 512) % 256 = z := ⟨_, rfl⟩
  have z1 : 0 ≤ z := by omega
  have z2 : z < 256 := by omega
  rw [hz] at m0 ⊢
  have wz : IntKind.i64.wrap z = z := IntWalk.i64_in _ (by omega)
  have wu : IntKind.u8.wrap z = z := by rw [IntKind.wrap_u8]; omega
  clear h1 hz hd
  go_enter Tryz.func52, Tryz.ntmps52
  go_wp2
  go_ret
  exact ⟨rfl, rfl⟩

theorem gb_own4 {a b : World} {k : Nat} {v0 v1 v2 v3 : Value} (h : a.grownBy b none) (hk : a.heap.size ≤ k) : a.grownBy ((((b.setCell ⟨k, 0, none⟩ v0).setCell ⟨k, 1, none⟩ v1).setCell ⟨k, 2, none⟩ v2).setCell ⟨k, 3, none⟩ v3) none :=
  gb_own (gb_own (gb_own (gb_own h hk (gb_set _ _ _ _)) hk (gb_set _ _ _ _)) hk (gb_set _ _ _ _)) hk (gb_set _ _ _ _)
/-- The seen pixels, in a row of their own. -/
def SnD (g : Nat) (seen : Nat → C4) (w : World) : Prop := ∀ k j, k < 64 → j < 4 → w.cell? ⟨g, 4 * k + j, none⟩ = some (.int .u8 ((seen k).ch j : Nat))
theorem SnD.kept {g : Nat} {seen : Nat → C4} {w w' : World} (h : SnD g seen w) (q : w.grownBy w' none) : SnD g seen w' := fun k j hk hj => q.cell (h k j hk hj) (by simp)

set_option maxRecDepth 100000 in
set_option maxHeartbeats 4000000 in
theorem rstep_As (s : ByteArray) (p b g : Nat) (last : C4) (seen : Nat → C4) (W : World) (hp : p < s.size) (hsz : s.size ≤ 1000000) (ok : last.ok) (oks : ∀ k, (seen k).ok) (S : SnD g seen W) (hb : bt s p = b) (hc : b = 254) (hn : s.size < p + 4) :
    Calls Tryz.prog 31 #[.string s, .int .i64 p, cV last, .slice (some ⟨g, 0, none⟩) 64 64] W fun e w' => e = .returned (.tuple #[.agg #[.int .u8 0, .int .u8 0, .int .u8 0, .int .u8 0], .int .i64 0, .int .i64 0, .bool false]) ∧ W.grownBy w' none := by
  have hb256 := bt_lt s p
  rw [hb] at hb256
  have y0 := bt_cell s p hp hb
  obtain ⟨r, gg, bl, a⟩ := last
  obtain ⟨k1, k2, k3, k4⟩ := ok
  have i1 : decide ((s.size : Int) < (p : Int) + 4) = true := decide_eq_true (by omega)
  have i1' : (s.size : Int) < (p : Int) + 4 := by omega
  subst hc
  rw [show ((254 : Nat) : Int) = 254 from rfl] at y0
  have G := Lib.hid (gb_trans (World.grownBy_alloc W (.cells #[.int .u8 r, .int .u8 gg, .int .u8 bl, .int .u8 a] 67) none) (World.grownBy_alloc _ (.cells #[.int .u8 0, .int .u8 0, .int .u8 0, .int .u8 0] 67) none))
  unfold cV cQ
  simp only
  clear oks S hb hn
  go_enter Tryz.func31, Tryz.ntmps31
  go_wp2
  refine bodyPost_ret (v := .tuple #[.agg #[.int .u8 0, .int .u8 0, .int .u8 0, .int .u8 0], .int .i64 0, .int .i64 0, .bool false]) (by simp only [results, Tryz.results31]; go_simp) rfl ⟨rfl, G.out⟩

set_option maxRecDepth 100000 in
set_option maxHeartbeats 4000000 in
theorem rstep_Bs (s : ByteArray) (p b g : Nat) (last : C4) (seen : Nat → C4) (W : World) (hp : p < s.size) (hsz : s.size ≤ 1000000) (ok : last.ok) (oks : ∀ k, (seen k).ok) (S : SnD g seen W) (hb : bt s p = b) (hc : b = 255) (hn : s.size < p + 5) :
    Calls Tryz.prog 31 #[.string s, .int .i64 p, cV last, .slice (some ⟨g, 0, none⟩) 64 64] W fun e w' => e = .returned (.tuple #[.agg #[.int .u8 0, .int .u8 0, .int .u8 0, .int .u8 0], .int .i64 0, .int .i64 0, .bool false]) ∧ W.grownBy w' none := by
  have hb256 := bt_lt s p
  rw [hb] at hb256
  have y0 := bt_cell s p hp hb
  obtain ⟨r, gg, bl, a⟩ := last
  obtain ⟨k1, k2, k3, k4⟩ := ok
  have i1 : decide ((s.size : Int) < (p : Int) + 5) = true := decide_eq_true (by omega)
  have i1' : (s.size : Int) < (p : Int) + 5 := by omega
  subst hc
  rw [show ((255 : Nat) : Int) = 255 from rfl] at y0
  have G := Lib.hid (gb_trans (World.grownBy_alloc W (.cells #[.int .u8 r, .int .u8 gg, .int .u8 bl, .int .u8 a] 67) none) (World.grownBy_alloc _ (.cells #[.int .u8 0, .int .u8 0, .int .u8 0, .int .u8 0] 67) none))
  unfold cV cQ
  simp only
  clear oks S hb hn
  go_enter Tryz.func31, Tryz.ntmps31
  go_wp2
  refine bodyPost_ret (v := .tuple #[.agg #[.int .u8 0, .int .u8 0, .int .u8 0, .int .u8 0], .int .i64 0, .int .i64 0, .bool false]) (by simp only [results, Tryz.results31]; go_simp) rfl ⟨rfl, G.out⟩

set_option maxRecDepth 100000 in
set_option maxHeartbeats 4000000 in
theorem rstep_Es (s : ByteArray) (p b g : Nat) (last : C4) (seen : Nat → C4) (W : World) (hp : p < s.size) (hsz : s.size ≤ 1000000) (ok : last.ok) (oks : ∀ k, (seen k).ok) (S : SnD g seen W) (hb : bt s p = b) (hc : 128 ≤ b ∧ b < 192) (hn : s.size < p + 2) :
    Calls Tryz.prog 31 #[.string s, .int .i64 p, cV last, .slice (some ⟨g, 0, none⟩) 64 64] W fun e w' => e = .returned (.tuple #[.agg #[.int .u8 0, .int .u8 0, .int .u8 0, .int .u8 0], .int .i64 0, .int .i64 0, .bool false]) ∧ W.grownBy w' none := by
  have hb256 := bt_lt s p
  rw [hb] at hb256
  have y0 := bt_cell s p hp hb
  obtain ⟨r, gg, bl, a⟩ := last
  obtain ⟨k1, k2, k3, k4⟩ := ok
  have i1 : decide ((s.size : Int) < (p : Int) + 2) = true := decide_eq_true (by omega)
  have i1' : (s.size : Int) < (p : Int) + 2 := by omega
  have e254 : ((b : Int) == 254) = false := by rw [beq_eq_false_iff_ne]; omega
  have n254 : ¬ (b : Int) = 254 := by omega
  have e255 : ((b : Int) == 255) = false := by rw [beq_eq_false_iff_ne]; omega
  have n255 : ¬ (b : Int) = 255 := by omega
  have g128 : (128 : Int) ≤ (b : Int) := by omega
  have g128b : decide ((128 : Int) ≤ (b : Int)) = true := decide_eq_true (by omega)
  have l192 : (b : Int) < 192 := by omega
  have l192b : decide ((b : Int) < 192) = true := decide_eq_true (by omega)
  have l64 : ¬ (b : Int) < 64 := by omega
  have l64b : decide ((b : Int) < 64) = false := decide_eq_false (by omega)
  have l128 : ¬ (b : Int) < 128 := by omega
  have l128b : decide ((b : Int) < 128) = false := decide_eq_false (by omega)
  have G := Lib.hid (gb_trans (World.grownBy_alloc W (.cells #[.int .u8 r, .int .u8 gg, .int .u8 bl, .int .u8 a] 67) none) (World.grownBy_alloc _ (.cells #[.int .u8 0, .int .u8 0, .int .u8 0, .int .u8 0] 67) none))
  unfold cV cQ
  simp only
  clear oks S hb hn
  go_enter Tryz.func31, Tryz.ntmps31
  go_wp2
  refine bodyPost_ret (v := .tuple #[.agg #[.int .u8 0, .int .u8 0, .int .u8 0, .int .u8 0], .int .i64 0, .int .i64 0, .bool false]) (by simp only [results, Tryz.results31]; go_simp) rfl ⟨rfl, G.out⟩

set_option maxRecDepth 100000 in
set_option maxHeartbeats 4000000 in
theorem rstep_A (s : ByteArray) (p b g : Nat) (last : C4) (seen : Nat → C4) (W : World) (hp : p < s.size) (hsz : s.size ≤ 1000000) (ok : last.ok) (oks : ∀ k, (seen k).ok) (S : SnD g seen W) (hb : bt s p = b) (hc : b = 254) (hn : p + 4 ≤ s.size) :
    Calls Tryz.prog 31 #[.string s, .int .i64 p, cV last, .slice (some ⟨g, 0, none⟩) 64 64] W fun e w' => e = .returned (.tuple #[cV (colQ s p last seen), .int .i64 (tms (bt s p) : Nat), .int .i64 (nb (bt s p) : Nat), .bool true]) ∧ W.grownBy w' none := by
  have hb256 := bt_lt s p
  rw [hb] at hb256
  have y0 := bt_cell s p hp hb
  obtain ⟨r, gg, bl, a⟩ := last
  obtain ⟨k1, k2, k3, k4⟩ := ok
  have i1 : decide ((s.size : Int) < (p : Int) + 4) = false := decide_eq_false (by omega)
  have i1' : ¬ (s.size : Int) < (p : Int) + 4 := by omega
  subst hc
  rw [show ((254 : Nat) : Int) = 254 from rfl] at y0
  obtain ⟨x1, hx1⟩ : ∃ x, bt s (p + 1) = x := ⟨_, rfl⟩
  obtain ⟨q1, hq1⟩ : ∃ q, p + 1 = q := ⟨_, rfl⟩
  have y1 := bt_cell s q1 (by omega) (show bt s q1 = x1 by rw [← hq1]; exact hx1)
  have v1 : IntKind.i64.wrap ((p : Int) + 1) = (q1 : Int) := by rw [IntWalk.i64_in _ (by omega)]; omega
  have u1 : (p : Int) + 1 = (q1 : Int) := by omega
  have z1 : q1 < s.size := by omega
  have z1b : (q1 : Int) < (s.size : Int) := by omega
  obtain ⟨x2, hx2⟩ : ∃ x, bt s (p + 2) = x := ⟨_, rfl⟩
  obtain ⟨q2, hq2⟩ : ∃ q, p + 2 = q := ⟨_, rfl⟩
  have y2 := bt_cell s q2 (by omega) (show bt s q2 = x2 by rw [← hq2]; exact hx2)
  have v2 : IntKind.i64.wrap ((p : Int) + 2) = (q2 : Int) := by rw [IntWalk.i64_in _ (by omega)]; omega
  have u2 : (p : Int) + 2 = (q2 : Int) := by omega
  have z2 : q2 < s.size := by omega
  have z2b : (q2 : Int) < (s.size : Int) := by omega
  obtain ⟨x3, hx3⟩ : ∃ x, bt s (p + 3) = x := ⟨_, rfl⟩
  obtain ⟨q3, hq3⟩ : ∃ q, p + 3 = q := ⟨_, rfl⟩
  have y3 := bt_cell s q3 (by omega) (show bt s q3 = x3 by rw [← hq3]; exact hx3)
  have v3 : IntKind.i64.wrap ((p : Int) + 3) = (q3 : Int) := by rw [IntWalk.i64_in _ (by omega)]; omega
  have u3 : (p : Int) + 3 = (q3 : Int) := by omega
  have z3 : q3 < s.size := by omega
  have z3b : (q3 : Int) < (s.size : Int) := by omega
  have hcol : colQ s p ⟨r, gg, bl, a⟩ seen = ⟨x1, x2, x3, a⟩ := by unfold colQ; rw [hb]; simp [hx1, hx2, hx3]
  have htn : tms (bt s p) = 1 ∧ nb (bt s p) = 4 := by rw [hb]; exact ⟨rfl, rfl⟩
  rw [hcol, htn.1, htn.2]
  have G := Lib.hid (gb_trans (gb_trans (World.grownBy_alloc W (.cells #[.int .u8 r, .int .u8 gg, .int .u8 bl, .int .u8 a] 67) none) (World.grownBy_alloc _ (.cells #[.int .u8 0, .int .u8 0, .int .u8 0, .int .u8 0] 67) none)) (World.grownBy_alloc _ (.cells #[.int .u8 r, .int .u8 gg, .int .u8 bl, .int .u8 a] 67) none))
  unfold cV cQ
  simp only
  clear oks S hb hcol htn
  go_enter Tryz.func31, Tryz.ntmps31
  go_upto_region 14 with fail
  go_region
  clear y0
  go_wp2
  refine bodyPost_ret (v := .tuple #[.agg #[.int .u8 x1, .int .u8 x2, .int .u8 x3, .int .u8 a], .int .i64 1, .int .i64 4, .bool true]) (by simp only [results, Tryz.results31]; go_simp) rfl ⟨rfl, ?_⟩
  repeat (first | refine gb_own ?_ (by omega) (gb_set _ _ _ _) | refine gb_trans ?_ (gb_drew _ none) | refine gb_trans ?_ (World.grownBy_alloc _ _ _))
  exact gb_refl _ _

set_option maxRecDepth 100000 in
set_option maxHeartbeats 4000000 in
theorem rstep_B (s : ByteArray) (p b g : Nat) (last : C4) (seen : Nat → C4) (W : World) (hp : p < s.size) (hsz : s.size ≤ 1000000) (ok : last.ok) (oks : ∀ k, (seen k).ok) (S : SnD g seen W) (hb : bt s p = b) (hc : b = 255) (hn : p + 5 ≤ s.size) :
    Calls Tryz.prog 31 #[.string s, .int .i64 p, cV last, .slice (some ⟨g, 0, none⟩) 64 64] W fun e w' => e = .returned (.tuple #[cV (colQ s p last seen), .int .i64 (tms (bt s p) : Nat), .int .i64 (nb (bt s p) : Nat), .bool true]) ∧ W.grownBy w' none := by
  have hb256 := bt_lt s p
  rw [hb] at hb256
  have y0 := bt_cell s p hp hb
  obtain ⟨r, gg, bl, a⟩ := last
  obtain ⟨k1, k2, k3, k4⟩ := ok
  have i1 : decide ((s.size : Int) < (p : Int) + 5) = false := decide_eq_false (by omega)
  have i1' : ¬ (s.size : Int) < (p : Int) + 5 := by omega
  subst hc
  rw [show ((255 : Nat) : Int) = 255 from rfl] at y0
  obtain ⟨x1, hx1⟩ : ∃ x, bt s (p + 1) = x := ⟨_, rfl⟩
  obtain ⟨q1, hq1⟩ : ∃ q, p + 1 = q := ⟨_, rfl⟩
  have y1 := bt_cell s q1 (by omega) (show bt s q1 = x1 by rw [← hq1]; exact hx1)
  have v1 : IntKind.i64.wrap ((p : Int) + 1) = (q1 : Int) := by rw [IntWalk.i64_in _ (by omega)]; omega
  have u1 : (p : Int) + 1 = (q1 : Int) := by omega
  have z1 : q1 < s.size := by omega
  have z1b : (q1 : Int) < (s.size : Int) := by omega
  obtain ⟨x2, hx2⟩ : ∃ x, bt s (p + 2) = x := ⟨_, rfl⟩
  obtain ⟨q2, hq2⟩ : ∃ q, p + 2 = q := ⟨_, rfl⟩
  have y2 := bt_cell s q2 (by omega) (show bt s q2 = x2 by rw [← hq2]; exact hx2)
  have v2 : IntKind.i64.wrap ((p : Int) + 2) = (q2 : Int) := by rw [IntWalk.i64_in _ (by omega)]; omega
  have u2 : (p : Int) + 2 = (q2 : Int) := by omega
  have z2 : q2 < s.size := by omega
  have z2b : (q2 : Int) < (s.size : Int) := by omega
  obtain ⟨x3, hx3⟩ : ∃ x, bt s (p + 3) = x := ⟨_, rfl⟩
  obtain ⟨q3, hq3⟩ : ∃ q, p + 3 = q := ⟨_, rfl⟩
  have y3 := bt_cell s q3 (by omega) (show bt s q3 = x3 by rw [← hq3]; exact hx3)
  have v3 : IntKind.i64.wrap ((p : Int) + 3) = (q3 : Int) := by rw [IntWalk.i64_in _ (by omega)]; omega
  have u3 : (p : Int) + 3 = (q3 : Int) := by omega
  have z3 : q3 < s.size := by omega
  have z3b : (q3 : Int) < (s.size : Int) := by omega
  obtain ⟨x4, hx4⟩ : ∃ x, bt s (p + 4) = x := ⟨_, rfl⟩
  obtain ⟨q4, hq4⟩ : ∃ q, p + 4 = q := ⟨_, rfl⟩
  have y4 := bt_cell s q4 (by omega) (show bt s q4 = x4 by rw [← hq4]; exact hx4)
  have v4 : IntKind.i64.wrap ((p : Int) + 4) = (q4 : Int) := by rw [IntWalk.i64_in _ (by omega)]; omega
  have u4 : (p : Int) + 4 = (q4 : Int) := by omega
  have z4 : q4 < s.size := by omega
  have z4b : (q4 : Int) < (s.size : Int) := by omega
  have hcol : colQ s p ⟨r, gg, bl, a⟩ seen = ⟨x1, x2, x3, x4⟩ := by unfold colQ; rw [hb]; simp [hx1, hx2, hx3, hx4]
  have htn : tms (bt s p) = 1 ∧ nb (bt s p) = 5 := by rw [hb]; exact ⟨rfl, rfl⟩
  rw [hcol, htn.1, htn.2]
  have G := Lib.hid (gb_trans (gb_trans (World.grownBy_alloc W (.cells #[.int .u8 r, .int .u8 gg, .int .u8 bl, .int .u8 a] 67) none) (World.grownBy_alloc _ (.cells #[.int .u8 0, .int .u8 0, .int .u8 0, .int .u8 0] 67) none)) (World.grownBy_alloc _ (.cells #[.int .u8 r, .int .u8 gg, .int .u8 bl, .int .u8 a] 67) none))
  unfold cV cQ
  simp only
  clear oks S hb hcol htn
  go_enter Tryz.func31, Tryz.ntmps31
  go_upto_region 14 with fail
  go_region
  clear y0
  go_wp2
  refine bodyPost_ret (v := .tuple #[.agg #[.int .u8 x1, .int .u8 x2, .int .u8 x3, .int .u8 x4], .int .i64 1, .int .i64 5, .bool true]) (by simp only [results, Tryz.results31]; go_simp) rfl ⟨rfl, ?_⟩
  repeat (first | refine gb_own ?_ (by omega) (gb_set _ _ _ _) | refine gb_trans ?_ (gb_drew _ none) | refine gb_trans ?_ (World.grownBy_alloc _ _ _))
  exact gb_refl _ _

set_option maxRecDepth 100000 in
set_option maxHeartbeats 4000000 in
theorem rstep_C (s : ByteArray) (p b g : Nat) (last : C4) (seen : Nat → C4) (W : World) (hp : p < s.size) (hsz : s.size ≤ 1000000) (ok : last.ok) (oks : ∀ k, (seen k).ok) (S : SnD g seen W) (hb : bt s p = b) (hc : b < 64) (hn : p + 1 ≤ s.size) :
    Calls Tryz.prog 31 #[.string s, .int .i64 p, cV last, .slice (some ⟨g, 0, none⟩) 64 64] W fun e w' => e = .returned (.tuple #[cV (colQ s p last seen), .int .i64 (tms (bt s p) : Nat), .int .i64 (nb (bt s p) : Nat), .bool true]) ∧ W.grownBy w' none := by
  have hb256 := bt_lt s p
  rw [hb] at hb256
  have y0 := bt_cell s p hp hb
  obtain ⟨r, gg, bl, a⟩ := last
  obtain ⟨k1, k2, k3, k4⟩ := ok
  have i1 : decide ((s.size : Int) < (p : Int) + 1) = false := decide_eq_false (by omega)
  have i1' : ¬ (s.size : Int) < (p : Int) + 1 := by omega
  have e254 : ((b : Int) == 254) = false := by rw [beq_eq_false_iff_ne]; omega
  have n254 : ¬ (b : Int) = 254 := by omega
  have e255 : ((b : Int) == 255) = false := by rw [beq_eq_false_iff_ne]; omega
  have n255 : ¬ (b : Int) = 255 := by omega
  have g128 : ¬ (128 : Int) ≤ (b : Int) := by omega
  have g128b : decide ((128 : Int) ≤ (b : Int)) = false := decide_eq_false (by omega)
  have l64 : (b : Int) < 64 := by omega
  have l64b : decide ((b : Int) < 64) = true := decide_eq_true (by omega)
  have hcol : colQ s p ⟨r, gg, bl, a⟩ seen = seen b := by unfold colQ; rw [hb]; rw [if_neg (by omega), if_neg (by omega), if_pos (by omega)]
  have htn : tms (bt s p) = 1 ∧ nb (bt s p) = 1 := by rw [hb]; unfold tms nb; constructor <;> (repeat' split) <;> omega
  rw [hcol, htn.1, htn.2]
  obtain ⟨c, hcc⟩ : ∃ c, seen b = c := ⟨_, rfl⟩
  have s0 := S b 0 (by omega) (by decide)
  have s1 := S b 1 (by omega) (by decide)
  have s2 := S b 2 (by omega) (by decide)
  have s3 := S b 3 (by omega) (by decide)
  rw [hcc] at s0 s1 s2 s3 ⊢
  obtain ⟨cr, cg, cb, ca⟩ := c
  simp only [C4.ch] at s0 s1 s2 s3
  rw [Nat.mul_comm 4 b, Nat.add_zero] at s0
  rw [Nat.mul_comm 4 b] at s1 s2 s3
  have hgl := cell_ltQ s0
  unfold cV cQ
  simp only
  have b64 : b < 64 := hc
  have G3 : W.grownBy (((W.alloc (.cells #[.int .u8 r, .int .u8 gg, .int .u8 bl, .int .u8 a] 67)).alloc (.cells #[.int .u8 0, .int .u8 0, .int .u8 0, .int .u8 0] 67)).alloc (.cells #[.int .u8 r, .int .u8 gg, .int .u8 bl, .int .u8 a] 67)) none := gb_trans (gb_trans (World.grownBy_alloc W _ none) (World.grownBy_alloc _ _ none)) (World.grownBy_alloc _ _ none)
  have t0 := G3.cell s0 (by simp)
  have t1 := G3.cell s1 (by simp)
  have t2 := G3.cell s2 (by simp)
  have t3 := G3.cell s3 (by simp)
  clear oks S hb hcol htn hcc
  go_enter Tryz.func31, Tryz.ntmps31
  go_wp2
  refine bodyPost_ret (v := .tuple #[.agg #[.int .u8 cr, .int .u8 cg, .int .u8 cb, .int .u8 ca], .int .i64 1, .int .i64 1, .bool true]) (by simp only [results, Tryz.results31]; go_simp) rfl ⟨rfl, ?_⟩
  repeat (first | refine gb_own ?_ (by omega) (gb_set _ _ _ _) | refine gb_trans ?_ (gb_drew _ none) | refine gb_trans ?_ (World.grownBy_alloc _ _ _))
  exact gb_refl _ _


set_option maxRecDepth 100000 in
set_option maxHeartbeats 4000000 in
theorem rstep_F (s : ByteArray) (p b g : Nat) (last : C4) (seen : Nat → C4) (W : World) (hp : p < s.size) (hsz : s.size ≤ 1000000) (ok : last.ok) (oks : ∀ k, (seen k).ok) (S : SnD g seen W) (hb : bt s p = b) (hc : 192 ≤ b ∧ b < 254) (hn : p + 1 ≤ s.size) :
    Calls Tryz.prog 31 #[.string s, .int .i64 p, cV last, .slice (some ⟨g, 0, none⟩) 64 64] W fun e w' => e = .returned (.tuple #[cV (colQ s p last seen), .int .i64 (tms (bt s p) : Nat), .int .i64 (nb (bt s p) : Nat), .bool true]) ∧ W.grownBy w' none := by
  have hb256 := bt_lt s p
  rw [hb] at hb256
  have y0 := bt_cell s p hp hb
  obtain ⟨r, gg, bl, a⟩ := last
  obtain ⟨k1, k2, k3, k4⟩ := ok
  have i1 : decide ((s.size : Int) < (p : Int) + 1) = false := decide_eq_false (by omega)
  have i1' : ¬ (s.size : Int) < (p : Int) + 1 := by omega
  have e254 : ((b : Int) == 254) = false := by rw [beq_eq_false_iff_ne]; omega
  have n254 : ¬ (b : Int) = 254 := by omega
  have e255 : ((b : Int) == 255) = false := by rw [beq_eq_false_iff_ne]; omega
  have n255 : ¬ (b : Int) = 255 := by omega
  have g128 : (128 : Int) ≤ (b : Int) := by omega
  have g128b : decide ((128 : Int) ≤ (b : Int)) = true := decide_eq_true (by omega)
  have l192 : ¬ (b : Int) < 192 := by omega
  have l192b : decide ((b : Int) < 192) = false := decide_eq_false (by omega)
  have l64 : ¬ (b : Int) < 64 := by omega
  have l64b : decide ((b : Int) < 64) = false := decide_eq_false (by omega)
  have l128 : ¬ (b : Int) < 128 := by omega
  have l128b : decide ((b : Int) < 128) = false := decide_eq_false (by omega)
  have hcol : colQ s p ⟨r, gg, bl, a⟩ seen = ⟨r, gg, bl, a⟩ := by unfold colQ; rw [hb]; rw [if_neg (by omega), if_neg (by omega), if_neg (by omega), if_neg (by omega), if_neg (by omega)]
  have htn : tms (bt s p) = b - 191 ∧ nb (bt s p) = 1 := by rw [hb]; unfold tms nb; constructor <;> (repeat' split) <;> omega
  rw [hcol, htn.1, htn.2]
  obtain ⟨t, ht⟩ : ∃ t, b - 191 = t := ⟨_, rfl⟩
  have v1 : IntKind.i64.wrap ((b : Int) - 192) = (b : Int) - 192 := IntWalk.i64_in _ (by omega)
  have v2 : IntKind.i64.wrap ((b : Int) - 192 + 1) = (t : Int) := by rw [IntWalk.i64_in _ (by omega)]; omega
  have v3 : (b : Int) - 192 + 1 = (t : Int) := by omega
  rw [ht]
  unfold cV cQ
  simp only
  clear oks S hb hcol htn ht
  go_enter Tryz.func31, Tryz.ntmps31
  go_wp2
  refine bodyPost_ret (v := .tuple #[.agg #[.int .u8 r, .int .u8 gg, .int .u8 bl, .int .u8 a], .int .i64 t, .int .i64 1, .bool true]) (by simp only [results, Tryz.results31]; go_simp) rfl ⟨rfl, ?_⟩
  repeat (first | refine gb_own ?_ (by omega) (gb_set _ _ _ _) | refine gb_trans ?_ (gb_drew _ none) | refine gb_trans ?_ (World.grownBy_alloc _ _ _))
  exact gb_refl _ _

end Go.Proofs.YtmhghkgcfgacdaaGreat.Qo
