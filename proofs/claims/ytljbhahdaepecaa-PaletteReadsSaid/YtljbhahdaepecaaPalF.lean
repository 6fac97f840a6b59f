/- Layer 10: how far colours are apart, by the code; Nearest, walked. -/
import Derived.Test.YtljbhahdaepecaaPalE
namespace Go.Proofs.Ytljbhahdaepecaa.Pa
open Go.ChangeShapes Go.WideShapes Go.ChangeAt Go.RowKit
open Go.Proofs.Ytljbhahdaepecaa.Sc Go.Proofs.Ytljbhahdaepecaa.Le
set_option linter.unusedVariables false

theorem csquare_calls (a b : Int) (W : World) (a0 : 0 ≤ a) (a1 : a ≤ 255) (b0 : 0 ≤ b) (b1 : b ≤ 255) : Calls Try.prog 46 #[.int .u8 a, .int .u8 b] W fun e w' => e = .returned (.int .i64 ((a - b) * (a - b))) ∧ W = w' := by
  obtain ⟨q0, q1⟩ := sq_bd (d := a - b) (by omega) (by omega)
  obtain ⟨d, hd⟩ : ∃ d, a - b = d := ⟨_, rfl⟩
  rw [hd] at q0 q1 ⊢
  go_enter Try.func46, Try.ntmps46
  go_wp2
  go_ret
  exact ⟨rfl, rfl⟩

set_option maxRecDepth 100000 in
set_option maxHeartbeats 1000000 in
theorem cfar_calls (x0 x1 x2 x3 y0 y1 y2 y3 : Int) (W : World) (hx0 : 0 ≤ x0 ∧ x0 ≤ 255) (hx1 : 0 ≤ x1 ∧ x1 ≤ 255) (hx2 : 0 ≤ x2 ∧ x2 ≤ 255) (hx3 : 0 ≤ x3 ∧ x3 ≤ 255) (hy0 : 0 ≤ y0 ∧ y0 ≤ 255) (hy1 : 0 ≤ y1 ∧ y1 ≤ 255) (hy2 : 0 ≤ y2 ∧ y2 ≤ 255) (hy3 : 0 ≤ y3 ∧ y3 ≤ 255) :
    Calls Try.prog 34 #[.agg #[.int .u8 x0, .int .u8 x1, .int .u8 x2, .int .u8 x3], .agg #[.int .u8 y0, .int .u8 y1, .int .u8 y2, .int .u8 y3]] W
      fun e w' => e = .returned (.int .i64 ((x0 - y0) * (x0 - y0) + (x1 - y1) * (x1 - y1) + (x2 - y2) * (x2 - y2) + (x3 - y3) * (x3 - y3))) ∧ W.grownBy w' none := by
  have K0 := fun u => csquare_calls x0 y0 u hx0.1 hx0.2 hy0.1 hy0.2
  have K1 := fun u => csquare_calls x1 y1 u hx1.1 hx1.2 hy1.1 hy1.2
  have K2 := fun u => csquare_calls x2 y2 u hx2.1 hx2.2 hy2.1 hy2.2
  have K3 := fun u => csquare_calls x3 y3 u hx3.1 hx3.2 hy3.1 hy3.2
  obtain ⟨p0, q0⟩ := sq_bd (d := x0 - y0) (by omega) (by omega)
  obtain ⟨p1, q1⟩ := sq_bd (d := x1 - y1) (by omega) (by omega)
  obtain ⟨p2, q2⟩ := sq_bd (d := x2 - y2) (by omega) (by omega)
  obtain ⟨p3, q3⟩ := sq_bd (d := x3 - y3) (by omega) (by omega)
  obtain ⟨s0, e0⟩ : ∃ s, (x0 - y0) * (x0 - y0) = s := ⟨_, rfl⟩
  obtain ⟨s1, e1⟩ : ∃ s, (x1 - y1) * (x1 - y1) = s := ⟨_, rfl⟩
  obtain ⟨s2, e2⟩ : ∃ s, (x2 - y2) * (x2 - y2) = s := ⟨_, rfl⟩
  obtain ⟨s3, e3⟩ : ∃ s, (x3 - y3) * (x3 - y3) = s := ⟨_, rfl⟩
  simp only [e0] at K0 p0 q0
  simp only [e1] at K1 p1 q1
  simp only [e2] at K2 p2 q2
  simp only [e3] at K3 p3 q3
  rw [e0, e1, e2, e3]
  have K0' := Lib.hid K0
  have K1' := Lib.hid K1
  have K2' := Lib.hid K2
  have K3' := Lib.hid K3
  clear K0 K1 K2 K3 e0 e1 e2 e3 hx0 hx1 hx2 hx3 hy0 hy1 hy2 hy3
  have t1 : IntKind.i64.wrap (s0 + s1) = s0 + s1 := by rw [IntKind.wrap_i64]; omega
  have t2 : IntKind.i64.wrap (s0 + s1 + s2) = s0 + s1 + s2 := by rw [IntKind.wrap_i64]; omega
  have t3 : IntKind.i64.wrap (s0 + s1 + s2 + s3) = s0 + s1 + s2 + s3 := by rw [IntKind.wrap_i64]; omega
  go_enter Try.func34, Try.ntmps34
  go_wp2_with fail
  have hA : ((W.alloc (.cells #[.int .u8 x0, .int .u8 x1, .int .u8 x2, .int .u8 x3] 24)).alloc (.cells #[.int .u8 y0, .int .u8 y1, .int .u8 y2, .int .u8 y3] 24)).heap[W.heap.size]? = some (.cells #[.int .u8 x0, .int .u8 x1, .int .u8 x2, .int .u8 x3] 24 (0, 0)) := blk_al blk_at _
  have hB : ((W.alloc (.cells #[.int .u8 x0, .int .u8 x1, .int .u8 x2, .int .u8 x3] 24)).alloc (.cells #[.int .u8 y0, .int .u8 y1, .int .u8 y2, .int .u8 y3] 24)).heap[W.heap.size + 1]? = some (.cells #[.int .u8 y0, .int .u8 y1, .int .u8 y2, .int .u8 y3] 24 (0, 0)) := by
    rw [← size_alloc W (.cells #[.int .u8 x0, .int .u8 x1, .int .u8 x2, .int .u8 x3] 24)]
    exact blk_at
  have hG : W.grownBy ((W.alloc (.cells #[.int .u8 x0, .int .u8 x1, .int .u8 x2, .int .u8 x3] 24)).alloc (.cells #[.int .u8 y0, .int .u8 y1, .int .u8 y2, .int .u8 y3] 24)) none := gb_trans (World.grownBy_alloc _ _ _) (World.grownBy_alloc _ _ _)
  generalize (W.alloc (.cells #[.int .u8 x0, .int .u8 x1, .int .u8 x2, .int .u8 x3] 24)).alloc (.cells #[.int .u8 y0, .int .u8 y1, .int .u8 y2, .int .u8 y3] 24) = w1 at hA hB hG ⊢
  have a0 := blk_cell hA 0
  have a1 := blk_cell hA 1
  have a2 := blk_cell hA 2
  have a3 := blk_cell hA 3
  have b0 := blk_cell hB 0
  have b1 := blk_cell hB 1
  have b2 := blk_cell hB 2
  have b3 := blk_cell hB 3
  simp only [List.getElem?_toArray, List.getElem?_cons_succ, List.getElem?_cons_zero] at a0 a1 a2 a3 b0 b1 b2 b3
  have HG := Lib.hid hG
  clear hA hB hG
  go_region_held3 (fun w' => w'.cell? ⟨W.heap.size, 0, none⟩ = some (.int .u8 x0) ∧ w'.cell? ⟨W.heap.size, 1, none⟩ = some (.int .u8 x1) ∧ w'.cell? ⟨W.heap.size, 2, none⟩ = some (.int .u8 x2) ∧ w'.cell? ⟨W.heap.size, 3, none⟩ = some (.int .u8 x3) ∧ w'.cell? ⟨W.heap.size + 1, 0, none⟩ = some (.int .u8 y0) ∧ w'.cell? ⟨W.heap.size + 1, 1, none⟩ = some (.int .u8 y1) ∧ w'.cell? ⟨W.heap.size + 1, 2, none⟩ = some (.int .u8 y2) ∧ w'.cell? ⟨W.heap.size + 1, 3, none⟩ = some (.int .u8 y3)) (go_keep)
    (first | (go_at_call 46; with_reducible refine (K0'.out _).mono ?_; rintro e w' ⟨rfl, rfl⟩) | (go_at_call 46; with_reducible refine (K1'.out _).mono ?_; rintro e w' ⟨rfl, rfl⟩) | (go_at_call 46; with_reducible refine (K2'.out _).mono ?_; rintro e w' ⟨rfl, rfl⟩) | (go_at_call 46; with_reducible refine (K3'.out _).mono ?_; rintro e w' ⟨rfl, rfl⟩))
  all_goals
    go_wp2
    go_ret
    exact ⟨rfl, gb_trans HG.out (gb_drew _ _)⟩

/-- How far two colours are apart. -/
def distV (x y : Nat → Int) : Int := (x 0 - y 0) * (x 0 - y 0) + (x 1 - y 1) * (x 1 - y 1) + (x 2 - y 2) * (x 2 - y 2) + (x 3 - y 3) * (x 3 - y 3)
def Col (x : Nat → Int) : Prop := ∀ j, j < 4 → 0 ≤ x j ∧ x j ≤ 255
theorem dist_bd {x y : Nat → Int} (hx : Col x) (hy : Col y) : 0 ≤ distV x y ∧ distV x y ≤ 260100 := by
  have one : ∀ j, j < 4 → 0 ≤ (x j - y j) * (x j - y j) ∧ (x j - y j) * (x j - y j) ≤ 65025 := fun j hj => sq_bd (by have := hx j hj; have := hy j hj; omega) (by have := hx j hj; have := hy j hj; omega)
  have a := one 0 (by decide)
  have b := one 1 (by decide)
  have c := one 2 (by decide)
  have d := one 3 (by decide)
  unfold distV
  omega

/-- Colours in memory, one behind the other. -/
def ColsAt (b off len : Nat) (C : Nat → Nat → Int) (w : World) : Prop := ∀ i, i < len → ∀ j, j < 4 → w.cell? ⟨b, off + i * 4 + j, none⟩ = some (.int .u8 (C i j))
theorem ColsAt.grown {b off len : Nat} {C : Nat → Nat → Int} {w w' : World} (h : ColsAt b off len C w) (g : w.grownBy w' none) : ColsAt b off len C w' := fun i hi j hj => g.cell (h i hi j hj) (by simp)

/-- The first of the nearest, of the first k. -/
def Best (D : Nat → Int) (k b : Nat) (ls : Int) : Prop := (k = 0 ∧ b = 0 ∧ ls = -1) ∨ (0 < k ∧ b < k ∧ ls = D b ∧ ∀ j, j < k → D b ≤ D j ∧ (D j = D b → b ≤ j))

theorem best_uniq {D : Nat → Int} {k b b' : Nat} {l l' : Int} (h : Best D k b l) (h' : Best D k b' l') : b = b' := by
  rcases h with ⟨h0, hb, _⟩ | ⟨h0, hb, _, h1⟩
  · rcases h' with ⟨_, hb', _⟩ | ⟨h0', _, _, _⟩
    · omega
    · omega
  · rcases h' with ⟨h0', _, _⟩ | ⟨_, hb', _, h1'⟩
    · omega
    · have a := h1 b' hb'
      have c := h1' b hb
      have e : D b = D b' := by omega
      have := a.2 e.symm
      have := c.2 e
      omega
theorem best_new {D : Nat → Int} {k b : Nat} {l : Int} (h : Best D k b l) (hd : k = 0 ∨ D k < l) : Best D (k + 1) k (D k) := by
  refine .inr ⟨by omega, by omega, rfl, fun j hj => ?_⟩
  by_cases hjk : j = k
  · subst hjk; exact ⟨Int.le_refl _, fun _ => Nat.le_refl _⟩
  · rcases h with ⟨h0, _, _⟩ | ⟨h0, hb, hl, h1⟩
    · omega
    · have := (h1 j (by omega)).1
      rcases hd with hd | hd
      · omega
      · exact ⟨by omega, fun e => by omega⟩
theorem best_old {D : Nat → Int} {k b : Nat} {l : Int} (h : Best D k b l) (hk : 0 < k) (hd : l ≤ D k) : Best D (k + 1) b l := by
  rcases h with ⟨h0, _, _⟩ | ⟨h0, hb, hl, h1⟩
  · omega
  · refine .inr ⟨by omega, by omega, hl, fun j hj => ?_⟩
    by_cases hjk : j = k
    · subst hjk; exact ⟨by omega, fun _ => by omega⟩
    · exact h1 j (by omega)
theorem best_some (D : Nat → Int) : ∀ k, ∃ b l, Best D k b l
  | 0 => ⟨0, -1, .inl ⟨rfl, rfl, rfl⟩⟩
  | k + 1 => by
    obtain ⟨b, l, h⟩ := best_some D k
    by_cases hd : k = 0 ∨ D k < l
    · exact ⟨k, D k, best_new h hd⟩
    · exact ⟨b, l, best_old h (by omega) (by omega)⟩

set_option maxRecDepth 100000 in
set_option maxHeartbeats 1000000 in
theorem nearest_calls (a : Option Addr) (b off len cap : Nat) (C : Nat → Nat → Int) (y : Nat → Int) (W : World) (ha : 0 < len → a = some ⟨b, off, none⟩) (hlen : len ≤ 100) (hC : ColsAt b off len C W) (hCol : ∀ i, i < len → Col (C i)) (hy : Col y) (bst : Nat) (ls : Int) (hb : Best (fun i => distV (C i) y) len bst ls) :
    Calls Try.prog 22 #[.slice a len cap, .agg #[.int .u8 (y 0), .int .u8 (y 1), .int .u8 (y 2), .int .u8 (y 3)]] W
      fun e w' => e = .returned (.tuple #[.int .i64 bst, .bool (decide (0 < len))]) ∧ W.grownBy w' none := by
  have HA := Lib.hid ha
  have HC := Lib.hid hC
  have HL := Lib.hid hCol
  have HY := Lib.hid hy
  have HB := Lib.hid hb
  have KF := Lib.hid (fun i (hi : i < len) u => cfar_calls (C i 0) (C i 1) (C i 2) (C i 3) (y 0) (y 1) (y 2) (y 3) u (hCol i hi 0 (by decide)) (hCol i hi 1 (by decide)) (hCol i hi 2 (by decide)) (hCol i hi 3 (by decide)) (hy 0 (by decide)) (hy 1 (by decide)) (hy 2 (by decide)) (hy 3 (by decide)))
  obtain ⟨y0, e0⟩ : ∃ z, y 0 = z := ⟨_, rfl⟩
  obtain ⟨y1, e1⟩ : ∃ z, y 1 = z := ⟨_, rfl⟩
  obtain ⟨y2, e2⟩ : ∃ z, y 2 = z := ⟨_, rfl⟩
  obtain ⟨y3, e3⟩ : ∃ z, y 3 = z := ⟨_, rfl⟩
  rw [e0, e1, e2, e3]
  have E := Lib.hid (And.intro e0 (And.intro e1 (And.intro e2 e3)))
  clear ha hC hCol hy hb e0 e1 e2 e3
  go_enter Try.func22, Try.ntmps22
  go_wp2_with fail
  have hX : (W.alloc (.cells #[.int .u8 y0, .int .u8 y1, .int .u8 y2, .int .u8 y3] 24)).heap[W.heap.size]? = some (.cells #[.int .u8 y0, .int .u8 y1, .int .u8 y2, .int .u8 y3] 24 (0, 0)) := blk_at
  have hG := World.grownBy_alloc W (.cells #[.int .u8 y0, .int .u8 y1, .int .u8 y2, .int .u8 y3] 24) none
  generalize W.alloc (.cells #[.int .u8 y0, .int .u8 y1, .int .u8 y2, .int .u8 y3] 24) = w1 at hX hG ⊢
  have HX := Lib.hid hX
  have HG := Lib.hid hG
  clear hX hG
  go_loopg [6, 7, 13] 101 (fun q bv lv iv wr => ∃ (k b : Nat) (l : Int), k ≤ len ∧ q = 101 - k ∧ iv = .int .i64 k ∧ bv = .int .i64 b ∧ lv = .int .i64 l ∧ Best (fun i => distV (C i) y) k b l ∧ wr.heap[W.heap.size]? = some (.cells #[.int .u8 y0, .int .u8 y1, .int .u8 y2, .int .u8 y3] 24 (0, 0)) ∧ W.grownBy wr none)
  case atStart => exact ⟨0, 0, -1, by omega, rfl, rfl, rfl, rfl, .inl ⟨rfl, rfl, rfl⟩, HX.out, HG.out⟩
  case round =>
    obtain ⟨k, bb, l, hk, rfl, rfl, rfl, rfl, hbest, hX, hG⟩ := hrel
    have hxl : W.heap.size < wr.heap.size := blk_lt hX
    have x0 : wr.cell? ⟨W.heap.size, 0, none⟩ = some (.int .u8 y0) := blk_cell hX 0
    have x1 : wr.cell? ⟨W.heap.size, 1, none⟩ = some (.int .u8 y1) := blk_cell hX 1
    have x2 : wr.cell? ⟨W.heap.size, 2, none⟩ = some (.int .u8 y2) := blk_cell hX 2
    have x3 : wr.cell? ⟨W.heap.size, 3, none⟩ = some (.int .u8 y3) := blk_cell hX 3
    have HX2 := Lib.hid hX
    have HG2 := Lib.hid hG
    have HBE := Lib.hid hbest
    clear hX hG hbest HX HG
    by_cases hlt : k < len
    · obtain rfl := HA.out (by omega)
      have z0 := HG2.out.cell (HC.out k hlt 0 (by decide)) (by simp)
      have z1 := HG2.out.cell (HC.out k hlt 1 (by decide)) (by simp)
      have z2 := HG2.out.cell (HC.out k hlt 2 (by decide)) (by simp)
      have z3 := HG2.out.cell (HC.out k hlt 3 (by decide)) (by simp)
      rw [Nat.add_zero] at z0
      have KFk := KF.out k hlt
      obtain ⟨d0, d1⟩ := dist_bd (HL.out k hlt) HY.out
      have hd : distV (C k) y = (C k 0 - y0) * (C k 0 - y0) + (C k 1 - y1) * (C k 1 - y1) + (C k 2 - y2) * (C k 2 - y2) + (C k 3 - y3) * (C k 3 - y3) := by unfold distV; rw [E.out.1, E.out.2.1, E.out.2.2.1, E.out.2.2.2]
      rw [E.out.1, E.out.2.1, E.out.2.2.1, E.out.2.2.2, ← hd] at KFk
      obtain ⟨d, hdd⟩ : ∃ d, distV (C k) y = d := ⟨_, rfl⟩
      obtain ⟨c0, f0⟩ : ∃ z, C k 0 = z := ⟨_, rfl⟩
      obtain ⟨c1, f1⟩ : ∃ z, C k 1 = z := ⟨_, rfl⟩
      obtain ⟨c2, f2⟩ : ∃ z, C k 2 = z := ⟨_, rfl⟩
      obtain ⟨c3, f3⟩ : ∃ z, C k 3 = z := ⟨_, rfl⟩
      rw [f0] at z0
      rw [f1] at z1
      rw [f2] at z2
      rw [f3] at z3
      rw [hdd] at d0 d1
      rw [hdd, f0, f1, f2, f3] at KFk
      have KFh := Lib.hid KFk
      have HD := Lib.hid hdd
      clear KFk hd hdd f0 f1 f2 f3
      go_wp2_with fail
      refine (KFh.out _).mono ?_
      rintro e w2 ⟨rfl, g2⟩
      have g3 := gb_trans (World.grownBy_alloc wr (.cells #[.int .u8 c0, .int .u8 c1, .int .u8 c2, .int .u8 c3] 24) none) g2
      have HX3 := Lib.hid (old0 g3 HX2.out (blk_lt HX2.out) (by simp))
      have HG3 := Lib.hid (gb_trans HG2.out g3)
      clear g2 g3 x0 x1 x2 x3 z0 z1 z2 z3
      by_cases hk0 : k = 0
      · have hl : l = -1 := by
          rcases HBE.out with ⟨_, _, h⟩ | ⟨h, _⟩
          · exact h
          · omega
        subst hl
        have HN := Lib.hid (best_new HBE.out (.inl hk0))
        have HK := Lib.hid hk0
        clear hk0
        go_wp2
        go_roundg (101 - (k + 1))
        case measure => omega
        case rel => exact ⟨k + 1, k, d, by omega, rfl, by go_num, rfl, rfl, by have := HN.out; simp only [HD.out] at this; exact this, HX3.out, HG3.out⟩
      · have hl0 : 0 ≤ l := by
          rcases HBE.out with ⟨h, _, _⟩ | ⟨_, hb, hl, _⟩
          · omega
          · rw [hl]; exact (dist_bd (HL.out bb (by omega)) HY.out).1
        by_cases hdl : d < l
        · have HN := Lib.hid (best_new HBE.out (.inr (by simp only [HD.out]; exact hdl)))
          go_wp2
          go_roundg (101 - (k + 1))
          case measure => omega
          case rel => exact ⟨k + 1, k, d, by omega, rfl, by go_num, rfl, rfl, by have := HN.out; simp only [HD.out] at this; exact this, HX3.out, HG3.out⟩
        · have hdl' : l ≤ d := by omega
          have HN := Lib.hid (best_old HBE.out (by omega) (by simp only [HD.out]; exact hdl'))
          go_wp2
          go_roundg (101 - (k + 1))
          case measure => omega
          case rel => exact ⟨k + 1, bb, l, by omega, rfl, by go_num, rfl, rfl, HN.out, HX3.out, HG3.out⟩
    · obtain rfl : k = len := by omega
      obtain rfl : bb = bst := best_uniq HBE.out HB.out
      go_wp2
      go_ret2
      exact ⟨rfl, HG2.out⟩

end Go.Proofs.Ytljbhahdaepecaa.Pa
