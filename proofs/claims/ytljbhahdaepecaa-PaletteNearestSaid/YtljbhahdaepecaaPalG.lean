/- Layer 10: PaletteNearest, walked. -/
import Derived.Test.YtljbhahdaepecaaPalF
import Derived.Test.YtljbhahdaepecaaPal2
namespace Go.Proofs.Ytljbhahdaepecaa.Pa
open Go.ChangeShapes Go.WideShapes Go.ChangeAt Go.RowKit
open Go.Proofs.Ytljbhahdaepecaa.Sc Go.Proofs.Ytljbhahdaepecaa.Le
set_option linter.unusedVariables false

set_option maxRecDepth 100000 in
theorem near_long (a : Option Addr) (len cap : Nat) (y0 y1 y2 y3 : Int) (W : World) (h : 100 < len) (hm : len ≤ 9223372036854775807) : Calls Try.prog 6 #[.slice a len cap, .agg #[.int .u8 y0, .int .u8 y1, .int .u8 y2, .int .u8 y3]] W fun e w' => e = .returned (.bool true) ∧ W.grownBy w' none := by
  have AW := Lib.hid (fun u => awake_calls u)
  have h' : (100 : Int) < len := by omega
  go_enter Try.func6, Try.ntmps6
  go_wp2_with fail
  refine (AW.out _).mono ?_
  rintro e w1 ⟨rfl, g1⟩
  go_wp2
  go_ret
  exact ⟨rfl, gb_trans (World.grownBy_alloc _ _ _) g1⟩

set_option maxRecDepth 100000 in
theorem near_none (a : Option Addr) (cap b off : Nat) (y : Nat → Int) (W : World) (hy : Col y) : Calls Try.prog 6 #[.slice a 0 cap, .agg #[.int .u8 (y 0), .int .u8 (y 1), .int .u8 (y 2), .int .u8 (y 3)]] W fun e w' => e = .returned (.bool true) ∧ W.grownBy w' none := by
  have AW := Lib.hid (fun u => awake_calls u)
  have K := fun u => nearest_calls a b off 0 cap (fun _ _ => 0) y u (fun h => by omega) (by omega) (fun i hi => by omega) (fun i hi => by omega) hy 0 (-1) (.inl ⟨rfl, rfl, rfl⟩)
  have e0 : ((0 : Nat) : Int) = 0 := rfl
  have e1 : decide (0 < 0) = false := rfl
  simp only [e0, e1] at K
  have K' := Lib.hid K
  clear K e0 e1
  go_enter Try.func6, Try.ntmps6
  go_wp2_with fail
  refine (K'.out _).mono ?_
  rintro e w1 ⟨rfl, g1⟩
  have G1 := Lib.hid (gb_trans (World.grownBy_alloc _ _ _) g1)
  clear g1
  go_wp2_with fail
  refine (AW.out _).mono ?_
  rintro e w2 ⟨rfl, g2⟩
  go_wp2
  go_ret
  exact ⟨rfl, gb_trans G1.out g2⟩

set_option maxRecDepth 100000 in
set_option maxHeartbeats 1000000 in
theorem near_some (b off len cap : Nat) (C : Nat → Nat → Int) (y : Nat → Int) (W : World) (h0 : 0 < len) (hlen : len ≤ 100) (hC : ColsAt b off len C W) (hCol : ∀ i, i < len → Col (C i)) (hy : Col y) :
    Calls Try.prog 6 #[.slice (some ⟨b, off, none⟩) len cap, .agg #[.int .u8 (y 0), .int .u8 (y 1), .int .u8 (y 2), .int .u8 (y 3)]] W fun e w' => e = .returned (.bool true) ∧ W.grownBy w' none := by
  have AW := Lib.hid (fun u => awake_calls u)
  obtain ⟨bst, ls, hb⟩ := best_some (fun i => distV (C i) y) len
  have hbl : bst < len := by
    rcases hb with ⟨h, _⟩ | ⟨_, h, _⟩
    · omega
    · exact h
  have KN := fun u (hu : ColsAt b off len C u) => nearest_calls (some ⟨b, off, none⟩) b off len cap C y u (fun _ => rfl) hlen hu hCol hy bst ls hb
  have hbb : ∀ k, k < len → distV (C bst) y ≤ distV (C k) y ∧ (distV (C k) y = distV (C bst) y → bst ≤ k) := by
    rcases hb with ⟨h, _⟩ | ⟨_, _, _, h⟩
    · omega
    · exact h
  have e1 : decide (0 < len) = true := decide_eq_true h0
  simp only [e1] at KN
  have KF := Lib.hid (fun i (hi : i < len) u => rfar_calls (C i 0) (C i 1) (C i 2) (C i 3) (y 0) (y 1) (y 2) (y 3) u (hCol i hi 0 (by decide)) (hCol i hi 1 (by decide)) (hCol i hi 2 (by decide)) (hCol i hi 3 (by decide)) (hy 0 (by decide)) (hy 1 (by decide)) (hy 2 (by decide)) (hy 3 (by decide)))
  obtain ⟨y0, e0⟩ : ∃ z, y 0 = z := ⟨_, rfl⟩
  obtain ⟨y1, e1⟩ : ∃ z, y 1 = z := ⟨_, rfl⟩
  obtain ⟨y2, e2⟩ : ∃ z, y 2 = z := ⟨_, rfl⟩
  obtain ⟨y3, e3⟩ : ∃ z, y 3 = z := ⟨_, rfl⟩
  rw [e0, e1, e2, e3]
  simp only [e0, e1, e2, e3] at KN
  have E := Lib.hid (And.intro e0 (And.intro e1 (And.intro e2 e3)))
  have KN' := Lib.hid KN
  have HC := Lib.hid hC
  have HBB := Lib.hid hbb
  clear KN hC hb hbb hCol hy e0 e1 e2 e3
  have hbl' : (bst : Int) < len := by omega
  have d1 : decide (len ≤ bst) = false := decide_eq_false (by omega)
  have d2 : decide ((bst : Int) < 0) = false := decide_eq_false (by omega)
  have d4 : ((len : Int) == 0) = false := by rw [beq_eq_false_iff_ne]; omega
  have d3 : decide (100 < (len : Int)) = false := decide_eq_false (by omega)
  go_enter Try.func6, Try.ntmps6
  go_wp2_with fail
  have hX : (W.alloc (.cells #[.int .u8 y0, .int .u8 y1, .int .u8 y2, .int .u8 y3] 24)).heap[W.heap.size]? = some (.cells #[.int .u8 y0, .int .u8 y1, .int .u8 y2, .int .u8 y3] 24 (0, 0)) := blk_at
  have hG := World.grownBy_alloc W (.cells #[.int .u8 y0, .int .u8 y1, .int .u8 y2, .int .u8 y3] 24) none
  generalize W.alloc (.cells #[.int .u8 y0, .int .u8 y1, .int .u8 y2, .int .u8 y3] 24) = w1 at hX hG ⊢
  have HX := Lib.hid hX
  have HG := Lib.hid hG
  have KNh := Lib.hid (KN'.out w1 (HC.out.grown hG))
  clear hX hG
  refine KNh.out.mono ?_
  rintro e w2 ⟨rfl, g2⟩
  have HX2 := Lib.hid (old0 g2 HX.out (blk_lt HX.out) (by simp))
  have HG2 := Lib.hid (gb_trans HG.out g2)
  clear g2
  go_wp2_with fail
  go_loopg [47] 101 (fun q iv wr => ∃ (k : Nat), k ≤ len ∧ q = 101 - k ∧ iv = .int .i64 k ∧ wr.heap[W.heap.size]? = some (.cells #[.int .u8 y0, .int .u8 y1, .int .u8 y2, .int .u8 y3] 24 (0, 0)) ∧ W.grownBy wr none)
  case atStart => exact ⟨0, by omega, rfl, rfl, HX2.out, HG2.out⟩
  case round =>
    obtain ⟨k, hk, rfl, rfl, hX, hG⟩ := hrel
    have HX3 := Lib.hid hX
    have HG3 := Lib.hid hG
    clear hX hG HX HX2 HG HG2
    by_cases hlt : k < len
    · have z0 := HG3.out.cell (HC.out k hlt 0 (by decide)) (by simp)
      have z1 := HG3.out.cell (HC.out k hlt 1 (by decide)) (by simp)
      have z2 := HG3.out.cell (HC.out k hlt 2 (by decide)) (by simp)
      have z3 := HG3.out.cell (HC.out k hlt 3 (by decide)) (by simp)
      rw [Nat.add_zero] at z0
      have v0 := HG3.out.cell (HC.out bst hbl 0 (by decide)) (by simp)
      have v1 := HG3.out.cell (HC.out bst hbl 1 (by decide)) (by simp)
      have v2 := HG3.out.cell (HC.out bst hbl 2 (by decide)) (by simp)
      have v3 := HG3.out.cell (HC.out bst hbl 3 (by decide)) (by simp)
      rw [Nat.add_zero] at v0
      have hbk := HBB.out k hlt
      have KFk := KF.out k hlt
      have KFb := KF.out bst hbl
      have hd : ∀ i, (C i 0 - y0) * (C i 0 - y0) + (C i 1 - y1) * (C i 1 - y1) + (C i 2 - y2) * (C i 2 - y2) + (C i 3 - y3) * (C i 3 - y3) = distV (C i) y := fun i => by unfold distV; rw [E.out.1, E.out.2.1, E.out.2.2.1, E.out.2.2.2]
      rw [E.out.1, E.out.2.1, E.out.2.2.1, E.out.2.2.2, hd] at KFk KFb
      obtain ⟨d, hdd⟩ : ∃ d, distV (C k) y = d := ⟨_, rfl⟩
      obtain ⟨f, hff⟩ : ∃ d, distV (C bst) y = d := ⟨_, rfl⟩
      rw [hdd, hff] at hbk
      rw [hdd] at KFk
      rw [hff] at KFb
      obtain ⟨b0, f0⟩ : ∃ z, C bst 0 = z := ⟨_, rfl⟩
      obtain ⟨b1, f1⟩ : ∃ z, C bst 1 = z := ⟨_, rfl⟩
      obtain ⟨b2, f2⟩ : ∃ z, C bst 2 = z := ⟨_, rfl⟩
      obtain ⟨b3, f3⟩ : ∃ z, C bst 3 = z := ⟨_, rfl⟩
      rw [f0] at v0
      rw [f1] at v1
      rw [f2] at v2
      rw [f3] at v3
      rw [f0, f1, f2, f3] at KFb
      clear f0 f1 f2 f3
      obtain ⟨c0, f0⟩ : ∃ z, C k 0 = z := ⟨_, rfl⟩
      obtain ⟨c1, f1⟩ : ∃ z, C k 1 = z := ⟨_, rfl⟩
      obtain ⟨c2, f2⟩ : ∃ z, C k 2 = z := ⟨_, rfl⟩
      obtain ⟨c3, f3⟩ : ∃ z, C k 3 = z := ⟨_, rfl⟩
      rw [f0] at z0
      rw [f1] at z1
      rw [f2] at z2
      rw [f3] at z3
      rw [f0, f1, f2, f3] at KFk
      have KFh := Lib.hid KFk
      have KBh := Lib.hid KFb
      have HBK := Lib.hid hbk
      clear KFk KFb hd hdd hff f0 f1 f2 f3 hbk
      go_wp2_with fail
      have hA5 : (wr.alloc (.cells #[.int .u8 c0, .int .u8 c1, .int .u8 c2, .int .u8 c3] 24)).heap[W.heap.size]? = some (.cells #[.int .u8 y0, .int .u8 y1, .int .u8 y2, .int .u8 y3] 24 (0, 0)) := blk_al HX3.out _
      have hX5 : (wr.alloc (.cells #[.int .u8 c0, .int .u8 c1, .int .u8 c2, .int .u8 c3] 24)).heap[wr.heap.size]? = some (.cells #[.int .u8 c0, .int .u8 c1, .int .u8 c2, .int .u8 c3] 24 (0, 0)) := blk_at
      have g5 := World.grownBy_alloc wr (.cells #[.int .u8 c0, .int .u8 c1, .int .u8 c2, .int .u8 c3] 24) none
      generalize wr.alloc (.cells #[.int .u8 c0, .int .u8 c1, .int .u8 c2, .int .u8 c3] 24) = w5 at hA5 hX5 g5 ⊢
      have q0 : w5.cell? ⟨W.heap.size, 0, none⟩ = some (.int .u8 y0) := blk_cell hA5 0
      have q1 : w5.cell? ⟨W.heap.size, 1, none⟩ = some (.int .u8 y1) := blk_cell hA5 1
      have q2 : w5.cell? ⟨W.heap.size, 2, none⟩ = some (.int .u8 y2) := blk_cell hA5 2
      have q3 : w5.cell? ⟨W.heap.size, 3, none⟩ = some (.int .u8 y3) := blk_cell hA5 3
      have q4 : w5.cell? ⟨wr.heap.size, 0, none⟩ = some (.int .u8 c0) := blk_cell hX5 0
      have q5 : w5.cell? ⟨wr.heap.size, 1, none⟩ = some (.int .u8 c1) := blk_cell hX5 1
      have q6 : w5.cell? ⟨wr.heap.size, 2, none⟩ = some (.int .u8 c2) := blk_cell hX5 2
      have q7 : w5.cell? ⟨wr.heap.size, 3, none⟩ = some (.int .u8 c3) := blk_cell hX5 3
      have q8 : w5.cell? ⟨b, off + bst * 4, none⟩ = some (.int .u8 b0) := g5.cell v0 (by simp)
      have q9 : w5.cell? ⟨b, off + bst * 4 + 1, none⟩ = some (.int .u8 b1) := g5.cell v1 (by simp)
      have q10 : w5.cell? ⟨b, off + bst * 4 + 2, none⟩ = some (.int .u8 b2) := g5.cell v2 (by simp)
      have q11 : w5.cell? ⟨b, off + bst * 4 + 3, none⟩ = some (.int .u8 b3) := g5.cell v3 (by simp)
      have HA5 := Lib.hid hA5
      have HG5 := Lib.hid (gb_trans HG3.out g5)
      clear hA5 hX5 g5 z0 z1 z2 z3 v0 v1 v2 v3
      go_region_held3 (fun w' => w'.cell? ⟨W.heap.size, 0, none⟩ = some (.int .u8 y0) ∧ w'.cell? ⟨W.heap.size, 1, none⟩ = some (.int .u8 y1) ∧ w'.cell? ⟨W.heap.size, 2, none⟩ = some (.int .u8 y2) ∧ w'.cell? ⟨W.heap.size, 3, none⟩ = some (.int .u8 y3) ∧ w'.cell? ⟨wr.heap.size, 0, none⟩ = some (.int .u8 c0) ∧ w'.cell? ⟨wr.heap.size, 1, none⟩ = some (.int .u8 c1) ∧ w'.cell? ⟨wr.heap.size, 2, none⟩ = some (.int .u8 c2) ∧ w'.cell? ⟨wr.heap.size, 3, none⟩ = some (.int .u8 c3) ∧ w'.cell? ⟨b, off + bst * 4, none⟩ = some (.int .u8 b0) ∧ w'.cell? ⟨b, off + bst * 4 + 1, none⟩ = some (.int .u8 b1) ∧ w'.cell? ⟨b, off + bst * 4 + 2, none⟩ = some (.int .u8 b2) ∧ w'.cell? ⟨b, off + bst * 4 + 3, none⟩ = some (.int .u8 b3)) (go_keep)
        (first | (go_at_call 23; with_reducible refine (KFh.out _).mono ?_; rintro e w6 ⟨rfl, g6o⟩; have g6 : w5.grownBy w6 none := (by first | exact gb_trans (gb_drew w5 _) g6o | exact g6o); clear g6o; have p0 : w6.cell? ⟨W.heap.size, 0, none⟩ = some (.int .u8 y0) := g6.cell q0 (by simp); have p1 : w6.cell? ⟨W.heap.size, 1, none⟩ = some (.int .u8 y1) := g6.cell q1 (by simp); have p2 : w6.cell? ⟨W.heap.size, 2, none⟩ = some (.int .u8 y2) := g6.cell q2 (by simp); have p3 : w6.cell? ⟨W.heap.size, 3, none⟩ = some (.int .u8 y3) := g6.cell q3 (by simp); have p4 : w6.cell? ⟨wr.heap.size, 0, none⟩ = some (.int .u8 c0) := g6.cell q4 (by simp); have p5 : w6.cell? ⟨wr.heap.size, 1, none⟩ = some (.int .u8 c1) := g6.cell q5 (by simp); have p6 : w6.cell? ⟨wr.heap.size, 2, none⟩ = some (.int .u8 c2) := g6.cell q6 (by simp); have p7 : w6.cell? ⟨wr.heap.size, 3, none⟩ = some (.int .u8 c3) := g6.cell q7 (by simp); have p8 : w6.cell? ⟨b, off + bst * 4, none⟩ = some (.int .u8 b0) := g6.cell q8 (by simp); have p9 : w6.cell? ⟨b, off + bst * 4 + 1, none⟩ = some (.int .u8 b1) := g6.cell q9 (by simp); have p10 : w6.cell? ⟨b, off + bst * 4 + 2, none⟩ = some (.int .u8 b2) := g6.cell q10 (by simp); have p11 : w6.cell? ⟨b, off + bst * 4 + 3, none⟩ = some (.int .u8 b3) := g6.cell q11 (by simp); have HA6 := Lib.hid (old0 g6 HA5.out (blk_lt HA5.out) (by simp)); have HG6 := Lib.hid (gb_trans HG5.out g6); clear g6) | (go_at_call 23; with_reducible refine (KBh.out _).mono ?_; rintro e w7 ⟨rfl, g7o⟩; have g7 : w6.grownBy w7 none := (by first | exact gb_trans (gb_drew w6 _) g7o | exact g7o); clear g7o; have r0 : w7.cell? ⟨W.heap.size, 0, none⟩ = some (.int .u8 y0) := g7.cell p0 (by simp); have r1 : w7.cell? ⟨W.heap.size, 1, none⟩ = some (.int .u8 y1) := g7.cell p1 (by simp); have r2 : w7.cell? ⟨W.heap.size, 2, none⟩ = some (.int .u8 y2) := g7.cell p2 (by simp); have r3 : w7.cell? ⟨W.heap.size, 3, none⟩ = some (.int .u8 y3) := g7.cell p3 (by simp); have r4 : w7.cell? ⟨wr.heap.size, 0, none⟩ = some (.int .u8 c0) := g7.cell p4 (by simp); have r5 : w7.cell? ⟨wr.heap.size, 1, none⟩ = some (.int .u8 c1) := g7.cell p5 (by simp); have r6 : w7.cell? ⟨wr.heap.size, 2, none⟩ = some (.int .u8 c2) := g7.cell p6 (by simp); have r7 : w7.cell? ⟨wr.heap.size, 3, none⟩ = some (.int .u8 c3) := g7.cell p7 (by simp); have r8 : w7.cell? ⟨b, off + bst * 4, none⟩ = some (.int .u8 b0) := g7.cell p8 (by simp); have r9 : w7.cell? ⟨b, off + bst * 4 + 1, none⟩ = some (.int .u8 b1) := g7.cell p9 (by simp); have r10 : w7.cell? ⟨b, off + bst * 4 + 2, none⟩ = some (.int .u8 b2) := g7.cell p10 (by simp); have r11 : w7.cell? ⟨b, off + bst * 4 + 3, none⟩ = some (.int .u8 b3) := g7.cell p11 (by simp); have HA7 := Lib.hid (old0 g7 HA6.out (blk_lt HA6.out) (by simp)); have HG7 := Lib.hid (gb_trans HG6.out g7); clear g7))
      all_goals
        by_cases hdf : d = f
        · have hle : (bst : Int) ≤ k := by have := HBK.out.2 hdf; omega
          subst hdf
          go_wp2
          go_roundg (101 - (k + 1))
          case measure => omega
          case rel => exact ⟨k + 1, by omega, rfl, by go_num, HA7.out, HG7.out⟩
        · have hle : f ≤ d := HBK.out.1
          have hne : (d == f) = false := by rw [beq_eq_false_iff_ne]; exact hdf
          go_wp2
          go_roundg (101 - (k + 1))
          case measure => omega
          case rel => exact ⟨k + 1, by omega, rfl, by go_num, HA7.out, HG7.out⟩
    · obtain rfl : k = len := by omega
      go_wp2_with fail
      refine (AW.out _).mono ?_
      rintro e w4 ⟨rfl, g4⟩
      go_wp2
      go_ret
      exact ⟨rfl, gb_trans HG3.out g4⟩

theorem near_any (a : Option Addr) (b off len cap : Nat) (C : Nat → Nat → Int) (y0 y1 y2 y3 : Int) (W : World) (ha : 0 < len → a = some ⟨b, off, none⟩) (hm : len ≤ 9223372036854775807) (hC : ColsAt b off len C W) (hCol : ∀ i, i < len → Col (C i)) (h0 : 0 ≤ y0 ∧ y0 ≤ 255) (h1 : 0 ≤ y1 ∧ y1 ≤ 255) (h2 : 0 ≤ y2 ∧ y2 ≤ 255) (h3 : 0 ≤ y3 ∧ y3 ≤ 255) :
    Calls Try.prog 6 #[.slice a len cap, .agg #[.int .u8 y0, .int .u8 y1, .int .u8 y2, .int .u8 y3]] W fun e w' => e = .returned (.bool true) ∧ W.grownBy w' none := by
  have hy : Col (fun j => if j = 0 then y0 else if j = 1 then y1 else if j = 2 then y2 else y3) := fun j hj => by
    obtain rfl | rfl | rfl | rfl : j = 0 ∨ j = 1 ∨ j = 2 ∨ j = 3 := by omega
    · exact h0
    · exact h1
    · exact h2
    · exact h3
  by_cases hl : 100 < len
  · exact near_long a len cap y0 y1 y2 y3 W hl hm
  · by_cases hz : 0 < len
    · obtain rfl := ha hz
      exact near_some b off len cap C (fun j => if j = 0 then y0 else if j = 1 then y1 else if j = 2 then y2 else y3) W hz (by omega) hC hCol hy
    · obtain rfl : len = 0 := by omega
      exact near_none a cap b off (fun j => if j = 0 then y0 else if j = 1 then y1 else if j = 2 then y2 else y3) W hy

end Go.Proofs.Ytljbhahdaepecaa.Pa
