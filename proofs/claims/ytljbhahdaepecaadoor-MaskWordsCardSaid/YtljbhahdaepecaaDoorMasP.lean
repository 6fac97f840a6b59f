/- Layer 9: MaskWords, walked, some cases. -/
import Derived.Test.YtljbhahdaepecaaDoorMasL
import Derived.Lib.RabinKarpLaws
namespace Go.Proofs.YtljbhahdaepecaaDoor.Ma
open Go.ChangeShapes Go.WideShapes Go.ChangeAt Go.RowKit
open Go.Proofs.YtljbhahdaepecaaDoor.Le Go.Proofs.YtljbhahdaepecaaDoor.Sc
set_option linter.unusedVariables false

set_option maxRecDepth 100000 in
set_option maxHeartbeats 1000000 in
theorem words_3_true (c0 c1 c2 c3 : Nat) (o : Int) (W : World) (hlt : 0 < W.heap.size) (hT : Tab W) (h0 : c0 < 256) (h1 : c1 < 256) (h2 : c2 < 256) (h3 : c3 < 256) (o0 : 0 ≤ o) (o1 : o ≤ 255) (ho : o % 4 = 3) :
    Calls Tryd.prog 5 #[.agg #[.int .u8 c0, .int .u8 c1, .int .u8 c2, .int .u8 c3], .int .u8 o, .bool true] W fun e w' => e = .returned (.bool true) ∧ W.grownBy w' none := by
  have P : Pl (fun k => if k = 0 then 8 else if k = 1 then 16 else if k = 2 then 24 else 0) (fun k => if k = 3 then 8 else 8) := ⟨fun k hk => by
      obtain rfl | rfl | rfl : k = 0 ∨ k = 1 ∨ k = 2 := by omega
      all_goals rfl, .inl rfl, fun k hk => by
      obtain rfl | rfl | rfl | rfl : k = 0 ∨ k = 1 ∨ k = 2 ∨ k = 3 := by omega
      all_goals decide, fun j hj k hk => by
      obtain rfl | rfl | rfl | rfl : j = 0 ∨ j = 1 ∨ j = 2 ∨ j = 3 := by omega
      all_goals
        obtain rfl | rfl | rfl | rfl : k = 0 ∨ k = 1 ∨ k = 2 ∨ k = 3 := by omega
        all_goals decide⟩
  have hc : ∀ k, k < 4 → (fun k => if k = 0 then c0 else if k = 1 then c1 else if k = 2 then c2 else c3) k < 256 := fun k hk => by
    obtain rfl | rfl | rfl | rfl : k = 0 ∨ k = 1 ∨ k = 2 ∨ k = 3 := by omega
    · exact h0
    · exact h1
    · exact h2
    · exact h3
  have KF := fun u l t => pl_four P (fun k => if k = 0 then 65280 else if k = 1 then 16711680 else if k = 2 then 4278190080 else 255) (fun k hk => by
    obtain rfl | rfl | rfl | rfl : k = 0 ∨ k = 1 ∨ k = 2 ∨ k = 3 := by omega
    all_goals decide) (fun k hk => by
    obtain rfl | rfl | rfl | rfl : k = 0 ∨ k = 1 ∨ k = 2 ∨ k = 3 := by omega
    all_goals decide) u l t
  have KW := fun u => pl_word P hc u
  have KC := fun u => pl_color P hc (by intro h; exact absurd h (by decide)) u
  have hin := xN_within P hc
  have hz := orN_lt (x := xN (fun k => if k = 0 then 8 else if k = 1 then 16 else if k = 2 then 24 else 0) (fun k => if k = 3 then 8 else 8) (fun k => if k = 0 then c0 else if k = 1 then c1 else if k = 2 then c2 else c3)) (k := 4) (fun j hj => xN_lt P hc j hj)
  obtain ⟨z, hzz⟩ : ∃ z, orN (xN (fun k => if k = 0 then 8 else if k = 1 then 16 else if k = 2 then 24 else 0) (fun k => if k = 3 then 8 else 8) (fun k => if k = 0 then c0 else if k = 1 then c1 else if k = 2 then c2 else c3)) 4 = z := ⟨_, rfl⟩
  simp only [hzz] at KW KC
  rw [hzz] at hin hz
  have hm : orN (fun k => maskW ((fun k => if k = 0 then 8 else if k = 1 then 16 else if k = 2 then 24 else 0) k) ((fun k => if k = 3 then 8 else 8) k)) 4 = 4294967295 := by decide
  rw [hm] at hin
  have ha := and_not_nat z 4294967295 hz (by decide) hin
  unfold set8 at KF KW KC
  simp at KF KW KC ha
  have z1 : (z : Int) ≤ 4294967295 := by omega
  have z0 : (0 : Int) ≤ z := by omega
  have KF' := Lib.hid KF
  have KW' := Lib.hid KW
  have KC' := Lib.hid KC
  have HA := Lib.hid ha
  have HT := Lib.hid hT
  clear P hc KF KW KC hin hz hzz hm ha hT h0 h1 h2 h3
  have b0 : bits BinOp.or IntKind.i64 65280 16711680 = 16776960 := by decide
  have b1 : bits BinOp.or IntKind.i64 16776960 4278190080 = 4294967040 := by decide
  have b2 : bits BinOp.or IntKind.i64 4294967040 255 = 4294967295 := by decide
  have s0 : IntKind.i64.wrap (255 * 2 ^ 8) = 65280 := by decide
  have s1 : IntKind.i64.wrap (255 * 2 ^ 16) = 16711680 := by decide
  have s2 : IntKind.i64.wrap (255 * 2 ^ 24) = 4278190080 := by decide
  go_enter Tryd.func5, Tryd.ntmps5
  go_wp2_with fail
  have hA : (((W.alloc (.cells #[.int .u8 (c0 : Int), .int .u8 (c1 : Int), .int .u8 (c2 : Int), .int .u8 (c3 : Int)] 42)).alloc (.cells #[.int .i64 16, .int .i64 8, .int .i64 0, .int .i64 0, .int .i64 8, .int .i64 16, .int .i64 24, .int .i64 16, .int .i64 8, .int .i64 8, .int .i64 16, .int .i64 24] 47)).alloc (.cells #[.int .i64 8, .int .i64 16, .int .i64 24] 46)).heap[W.heap.size]? = some (.cells #[.int .u8 (c0 : Int), .int .u8 (c1 : Int), .int .u8 (c2 : Int), .int .u8 (c3 : Int)] 42 (0, 0)) := blk_al (blk_al blk_at _) _
  have hL : (((W.alloc (.cells #[.int .u8 (c0 : Int), .int .u8 (c1 : Int), .int .u8 (c2 : Int), .int .u8 (c3 : Int)] 42)).alloc (.cells #[.int .i64 16, .int .i64 8, .int .i64 0, .int .i64 0, .int .i64 8, .int .i64 16, .int .i64 24, .int .i64 16, .int .i64 8, .int .i64 8, .int .i64 16, .int .i64 24] 47)).alloc (.cells #[.int .i64 8, .int .i64 16, .int .i64 24] 46)).heap[W.heap.size + 1 + 1]? = some (.cells #[.int .i64 8, .int .i64 16, .int .i64 24] 46 (0, 0)) := by
    have e : ((W.alloc (.cells #[.int .u8 (c0 : Int), .int .u8 (c1 : Int), .int .u8 (c2 : Int), .int .u8 (c3 : Int)] 42)).alloc (.cells #[.int .i64 16, .int .i64 8, .int .i64 0, .int .i64 0, .int .i64 8, .int .i64 16, .int .i64 24, .int .i64 16, .int .i64 8, .int .i64 8, .int .i64 16, .int .i64 24] 47)).heap.size = W.heap.size + 1 + 1 := by rw [size_alloc, size_alloc]
    rw [← e]
    exact blk_at
  have hG : W.grownBy (((W.alloc (.cells #[.int .u8 (c0 : Int), .int .u8 (c1 : Int), .int .u8 (c2 : Int), .int .u8 (c3 : Int)] 42)).alloc (.cells #[.int .i64 16, .int .i64 8, .int .i64 0, .int .i64 0, .int .i64 8, .int .i64 16, .int .i64 24, .int .i64 16, .int .i64 8, .int .i64 8, .int .i64 16, .int .i64 24] 47)).alloc (.cells #[.int .i64 8, .int .i64 16, .int .i64 24] 46)) none := gb_trans (gb_trans (World.grownBy_alloc _ _ _) (World.grownBy_alloc _ _ _)) (World.grownBy_alloc _ _ _)
  generalize ((W.alloc (.cells #[.int .u8 (c0 : Int), .int .u8 (c1 : Int), .int .u8 (c2 : Int), .int .u8 (c3 : Int)] 42)).alloc (.cells #[.int .i64 16, .int .i64 8, .int .i64 0, .int .i64 0, .int .i64 8, .int .i64 16, .int .i64 24, .int .i64 16, .int .i64 8, .int .i64 8, .int .i64 16, .int .i64 24] 47)).alloc (.cells #[.int .i64 8, .int .i64 16, .int .i64 24] 46) = w3 at hA hL hG ⊢
  have l0 : w3.cell? ⟨W.heap.size + 1 + 1, 0, none⟩ = some (.int .i64 8) := blk_cell hL 0
  have l1 : w3.cell? ⟨W.heap.size + 1 + 1, 1, none⟩ = some (.int .i64 16) := blk_cell hL 1
  have l2 : w3.cell? ⟨W.heap.size + 1 + 1, 2, none⟩ = some (.int .i64 24) := blk_cell hL 2
  have HA3 := Lib.hid hA
  have HG3 := Lib.hid hG
  clear hA hL hG
  go_quiet (fail)
  clear s0 s1 s2
  go_wp2_with fail
  refine (KF'.out _ (Nat.lt_of_lt_of_le hlt (World.grownBy.size (gb_trans HG3.out (gb_drewN _ _ _)))) (HT.out.grown hlt (gb_trans HG3.out (gb_drewN _ _ _)))).mono ?_
  rintro e w4 ⟨rfl, g4⟩
  have A4 : w4.heap[W.heap.size]? = some (.cells #[.int .u8 (c0 : Int), .int .u8 (c1 : Int), .int .u8 (c2 : Int), .int .u8 (c3 : Int)] 42 (0, 0)) := old0 g4 HA3.out (blk_lt HA3.out) (by simp)
  have hl4 : W.heap.size < w4.heap.size := blk_lt A4
  have HA4 := Lib.hid A4
  have HG4 := Lib.hid (gb_trans (gb_trans HG3.out (gb_drewN _ _ _)) g4)
  have u0 : w4.cell? ⟨W.heap.size, 0, none⟩ = some (.int .u8 (c0 : Int)) := blk_cell A4 0
  have u1 : w4.cell? ⟨W.heap.size, 1, none⟩ = some (.int .u8 (c1 : Int)) := blk_cell A4 1
  have u2 : w4.cell? ⟨W.heap.size, 2, none⟩ = some (.int .u8 (c2 : Int)) := blk_cell A4 2
  have u3 : w4.cell? ⟨W.heap.size, 3, none⟩ = some (.int .u8 (c3 : Int)) := blk_cell A4 3
  clear g4 A4 l0 l1 l2
  go_wp2_with fail
  refine (KW'.out _).mono ?_
  rintro e w5 ⟨rfl, g5⟩
  have A5 : w5.heap[W.heap.size]? = some (.cells #[.int .u8 (c0 : Int), .int .u8 (c1 : Int), .int .u8 (c2 : Int), .int .u8 (c3 : Int)] 42 (0, 0)) := old0 (gb_trans (World.grownBy_alloc w4 _ none) g5) HA4.out (blk_lt HA4.out) (by simp)
  have T5 : w5.heap[w4.heap.size]? = some (.cells #[.int .i64 8, .int .i64 8, .int .i64 16, .int .i64 8, .int .i64 24, .int .i64 8, .int .i64 0, .int .i64 8] 35 (0, 0)) := old1 g5 (by simp)
  have HG5 := Lib.hid (gb_trans (gb_trans HG4.out (World.grownBy_alloc w4 _ none)) g5)
  have x0 : w5.cell? ⟨W.heap.size, 0, none⟩ = some (.int .u8 (c0 : Int)) := blk_cell A5 0
  have x1 : w5.cell? ⟨W.heap.size, 1, none⟩ = some (.int .u8 (c1 : Int)) := blk_cell A5 1
  have x2 : w5.cell? ⟨W.heap.size, 2, none⟩ = some (.int .u8 (c2 : Int)) := blk_cell A5 2
  have x3 : w5.cell? ⟨W.heap.size, 3, none⟩ = some (.int .u8 (c3 : Int)) := blk_cell A5 3
  have x4 : w5.cell? ⟨w4.heap.size, 0, none⟩ = some (.int .i64 8) := blk_cell T5 0
  have x5 : w5.cell? ⟨w4.heap.size, 1, none⟩ = some (.int .i64 8) := blk_cell T5 1
  have x6 : w5.cell? ⟨w4.heap.size, 2, none⟩ = some (.int .i64 16) := blk_cell T5 2
  have x7 : w5.cell? ⟨w4.heap.size, 3, none⟩ = some (.int .i64 8) := blk_cell T5 3
  have x8 : w5.cell? ⟨w4.heap.size, 4, none⟩ = some (.int .i64 24) := blk_cell T5 4
  have x9 : w5.cell? ⟨w4.heap.size, 5, none⟩ = some (.int .i64 8) := blk_cell T5 5
  have x10 : w5.cell? ⟨w4.heap.size, 6, none⟩ = some (.int .i64 0) := blk_cell T5 6
  have x11 : w5.cell? ⟨w4.heap.size, 7, none⟩ = some (.int .i64 8) := blk_cell T5 7
  have ha := HA.out
  clear g5 A5 T5 u0 u1 u2 u3
  go_wp2_with fail
  go_region_held3 (fun w' => w'.cell? ⟨W.heap.size, 0, none⟩ = some (.int .u8 (c0 : Int)) ∧ w'.cell? ⟨W.heap.size, 1, none⟩ = some (.int .u8 (c1 : Int)) ∧ w'.cell? ⟨W.heap.size, 2, none⟩ = some (.int .u8 (c2 : Int)) ∧ w'.cell? ⟨W.heap.size, 3, none⟩ = some (.int .u8 (c3 : Int)) ∧ w'.cell? ⟨w4.heap.size, 0, none⟩ = some (.int .i64 8) ∧ w'.cell? ⟨w4.heap.size, 1, none⟩ = some (.int .i64 8) ∧ w'.cell? ⟨w4.heap.size, 2, none⟩ = some (.int .i64 16) ∧ w'.cell? ⟨w4.heap.size, 3, none⟩ = some (.int .i64 8) ∧ w'.cell? ⟨w4.heap.size, 4, none⟩ = some (.int .i64 24) ∧ w'.cell? ⟨w4.heap.size, 5, none⟩ = some (.int .i64 8) ∧ w'.cell? ⟨w4.heap.size, 6, none⟩ = some (.int .i64 0) ∧ w'.cell? ⟨w4.heap.size, 7, none⟩ = some (.int .i64 8)) (go_keep)
    (first | (go_at_call 16; with_reducible refine (KC'.out _).mono ?_; rintro e w6 ⟨rfl, g6o⟩; have g6 : w5.grownBy w6 none := (by first | exact gb_trans (gb_drew w5 _) g6o | exact g6o); clear g6o; have k0 : w6.cell? ⟨W.heap.size, 0, none⟩ = some (.int .u8 (c0 : Int)) := g6.cell x0 (by simp); have k1 : w6.cell? ⟨W.heap.size, 1, none⟩ = some (.int .u8 (c1 : Int)) := g6.cell x1 (by simp); have k2 : w6.cell? ⟨W.heap.size, 2, none⟩ = some (.int .u8 (c2 : Int)) := g6.cell x2 (by simp); have k3 : w6.cell? ⟨W.heap.size, 3, none⟩ = some (.int .u8 (c3 : Int)) := g6.cell x3 (by simp); have k4 : w6.cell? ⟨w4.heap.size, 0, none⟩ = some (.int .i64 8) := g6.cell x4 (by simp); have k5 : w6.cell? ⟨w4.heap.size, 1, none⟩ = some (.int .i64 8) := g6.cell x5 (by simp); have k6 : w6.cell? ⟨w4.heap.size, 2, none⟩ = some (.int .i64 16) := g6.cell x6 (by simp); have k7 : w6.cell? ⟨w4.heap.size, 3, none⟩ = some (.int .i64 8) := g6.cell x7 (by simp); have k8 : w6.cell? ⟨w4.heap.size, 4, none⟩ = some (.int .i64 24) := g6.cell x8 (by simp); have k9 : w6.cell? ⟨w4.heap.size, 5, none⟩ = some (.int .i64 8) := g6.cell x9 (by simp); have k10 : w6.cell? ⟨w4.heap.size, 6, none⟩ = some (.int .i64 0) := g6.cell x10 (by simp); have k11 : w6.cell? ⟨w4.heap.size, 7, none⟩ = some (.int .i64 8) := g6.cell x11 (by simp); have HG6 := Lib.hid (gb_trans HG5.out g6); have AW := Lib.hid (awake_calls w6 (Nat.lt_of_lt_of_le hlt HG6.out.size) (HT.out.grown hlt HG6.out)); clear g6) | (go_at_call 12; with_reducible refine (AW.out).mono ?_; rintro e w7 ⟨rfl, g7⟩; have n0 : w7.cell? ⟨W.heap.size, 0, none⟩ = some (.int .u8 (c0 : Int)) := g7.cell k0 (by simp); have n1 : w7.cell? ⟨W.heap.size, 1, none⟩ = some (.int .u8 (c1 : Int)) := g7.cell k1 (by simp); have n2 : w7.cell? ⟨W.heap.size, 2, none⟩ = some (.int .u8 (c2 : Int)) := g7.cell k2 (by simp); have n3 : w7.cell? ⟨W.heap.size, 3, none⟩ = some (.int .u8 (c3 : Int)) := g7.cell k3 (by simp); have n4 : w7.cell? ⟨w4.heap.size, 0, none⟩ = some (.int .i64 8) := g7.cell k4 (by simp); have n5 : w7.cell? ⟨w4.heap.size, 1, none⟩ = some (.int .i64 8) := g7.cell k5 (by simp); have n6 : w7.cell? ⟨w4.heap.size, 2, none⟩ = some (.int .i64 16) := g7.cell k6 (by simp); have n7 : w7.cell? ⟨w4.heap.size, 3, none⟩ = some (.int .i64 8) := g7.cell k7 (by simp); have n8 : w7.cell? ⟨w4.heap.size, 4, none⟩ = some (.int .i64 24) := g7.cell k8 (by simp); have n9 : w7.cell? ⟨w4.heap.size, 5, none⟩ = some (.int .i64 8) := g7.cell k9 (by simp); have n10 : w7.cell? ⟨w4.heap.size, 6, none⟩ = some (.int .i64 0) := g7.cell k10 (by simp); have n11 : w7.cell? ⟨w4.heap.size, 7, none⟩ = some (.int .i64 8) := g7.cell k11 (by simp); have HG7 := Lib.hid (gb_trans HG6.out g7); clear g7))
  all_goals
    go_wp2
    go_ret
    exact ⟨rfl, HG7.out⟩

set_option maxRecDepth 100000 in
set_option maxHeartbeats 1000000 in
theorem words_3_false (c0 c1 c2 c3 : Nat) (o : Int) (W : World) (hlt : 0 < W.heap.size) (hT : Tab W) (h0 : c0 < 256) (h1 : c1 < 256) (h2 : c2 < 256) (h3 : c3 < 256) (o0 : 0 ≤ o) (o1 : o ≤ 255) (ho : o % 4 = 3) :
    Calls Tryd.prog 5 #[.agg #[.int .u8 c0, .int .u8 c1, .int .u8 c2, .int .u8 c3], .int .u8 o, .bool false] W fun e w' => e = .returned (.bool true) ∧ W.grownBy w' none := by
  have P : Pl (fun k => if k = 0 then 8 else if k = 1 then 16 else if k = 2 then 24 else 0) (fun k => if k = 3 then 0 else 8) := ⟨fun k hk => by
      obtain rfl | rfl | rfl : k = 0 ∨ k = 1 ∨ k = 2 := by omega
      all_goals rfl, .inr ⟨rfl, rfl⟩, fun k hk => by
      obtain rfl | rfl | rfl | rfl : k = 0 ∨ k = 1 ∨ k = 2 ∨ k = 3 := by omega
      all_goals decide, fun j hj k hk => by
      obtain rfl | rfl | rfl | rfl : j = 0 ∨ j = 1 ∨ j = 2 ∨ j = 3 := by omega
      all_goals
        obtain rfl | rfl | rfl | rfl : k = 0 ∨ k = 1 ∨ k = 2 ∨ k = 3 := by omega
        all_goals decide⟩
  have hc : ∀ k, k < 4 → (fun k => if k = 0 then c0 else if k = 1 then c1 else if k = 2 then c2 else 255) k < 256 := fun k hk => by
    obtain rfl | rfl | rfl | rfl : k = 0 ∨ k = 1 ∨ k = 2 ∨ k = 3 := by omega
    · exact h0
    · exact h1
    · exact h2
    · (show 255 < 256; decide)
  have KF := fun u l t => pl_four P (fun k => if k = 0 then 65280 else if k = 1 then 16711680 else if k = 2 then 4278190080 else 0) (fun k hk => by
    obtain rfl | rfl | rfl | rfl : k = 0 ∨ k = 1 ∨ k = 2 ∨ k = 3 := by omega
    all_goals decide) (fun k hk => by
    obtain rfl | rfl | rfl | rfl : k = 0 ∨ k = 1 ∨ k = 2 ∨ k = 3 := by omega
    all_goals decide) u l t
  have KW := fun u => pl_word P hc u
  have KC := fun u => pl_color P hc (by intro _; rfl) u
  have hin := xN_within P hc
  have hz := orN_lt (x := xN (fun k => if k = 0 then 8 else if k = 1 then 16 else if k = 2 then 24 else 0) (fun k => if k = 3 then 0 else 8) (fun k => if k = 0 then c0 else if k = 1 then c1 else if k = 2 then c2 else 255)) (k := 4) (fun j hj => xN_lt P hc j hj)
  obtain ⟨z, hzz⟩ : ∃ z, orN (xN (fun k => if k = 0 then 8 else if k = 1 then 16 else if k = 2 then 24 else 0) (fun k => if k = 3 then 0 else 8) (fun k => if k = 0 then c0 else if k = 1 then c1 else if k = 2 then c2 else 255)) 4 = z := ⟨_, rfl⟩
  simp only [hzz] at KW KC
  rw [hzz] at hin hz
  have hm : orN (fun k => maskW ((fun k => if k = 0 then 8 else if k = 1 then 16 else if k = 2 then 24 else 0) k) ((fun k => if k = 3 then 0 else 8) k)) 4 = 4294967040 := by decide
  rw [hm] at hin
  have ha := and_not_nat z 4294967040 hz (by decide) hin
  unfold set8 at KF KW KC
  simp at KF KW KC ha
  have z1 : (z : Int) ≤ 4294967295 := by omega
  have z0 : (0 : Int) ≤ z := by omega
  have KF' := Lib.hid KF
  have KW' := Lib.hid KW
  have KC' := Lib.hid KC
  have HA := Lib.hid ha
  have HT := Lib.hid hT
  clear P hc KF KW KC hin hz hzz hm ha hT h0 h1 h2 h3
  have b0 : bits BinOp.or IntKind.i64 65280 16711680 = 16776960 := by decide
  have b1 : bits BinOp.or IntKind.i64 16776960 4278190080 = 4294967040 := by decide
  have b2 : bits BinOp.or IntKind.i64 4294967040 0 = 4294967040 := by decide
  have s0 : IntKind.i64.wrap (255 * 2 ^ 8) = 65280 := by decide
  have s1 : IntKind.i64.wrap (255 * 2 ^ 16) = 16711680 := by decide
  have s2 : IntKind.i64.wrap (255 * 2 ^ 24) = 4278190080 := by decide
  go_enter Tryd.func5, Tryd.ntmps5
  go_wp2_with fail
  have hA : (((W.alloc (.cells #[.int .u8 (c0 : Int), .int .u8 (c1 : Int), .int .u8 (c2 : Int), .int .u8 (c3 : Int)] 42)).alloc (.cells #[.int .i64 16, .int .i64 8, .int .i64 0, .int .i64 0, .int .i64 8, .int .i64 16, .int .i64 24, .int .i64 16, .int .i64 8, .int .i64 8, .int .i64 16, .int .i64 24] 47)).alloc (.cells #[.int .i64 8, .int .i64 16, .int .i64 24] 46)).heap[W.heap.size]? = some (.cells #[.int .u8 (c0 : Int), .int .u8 (c1 : Int), .int .u8 (c2 : Int), .int .u8 (c3 : Int)] 42 (0, 0)) := blk_al (blk_al blk_at _) _
  have hL : (((W.alloc (.cells #[.int .u8 (c0 : Int), .int .u8 (c1 : Int), .int .u8 (c2 : Int), .int .u8 (c3 : Int)] 42)).alloc (.cells #[.int .i64 16, .int .i64 8, .int .i64 0, .int .i64 0, .int .i64 8, .int .i64 16, .int .i64 24, .int .i64 16, .int .i64 8, .int .i64 8, .int .i64 16, .int .i64 24] 47)).alloc (.cells #[.int .i64 8, .int .i64 16, .int .i64 24] 46)).heap[W.heap.size + 1 + 1]? = some (.cells #[.int .i64 8, .int .i64 16, .int .i64 24] 46 (0, 0)) := by
    have e : ((W.alloc (.cells #[.int .u8 (c0 : Int), .int .u8 (c1 : Int), .int .u8 (c2 : Int), .int .u8 (c3 : Int)] 42)).alloc (.cells #[.int .i64 16, .int .i64 8, .int .i64 0, .int .i64 0, .int .i64 8, .int .i64 16, .int .i64 24, .int .i64 16, .int .i64 8, .int .i64 8, .int .i64 16, .int .i64 24] 47)).heap.size = W.heap.size + 1 + 1 := by rw [size_alloc, size_alloc]
    rw [← e]
    exact blk_at
  have hG : W.grownBy (((W.alloc (.cells #[.int .u8 (c0 : Int), .int .u8 (c1 : Int), .int .u8 (c2 : Int), .int .u8 (c3 : Int)] 42)).alloc (.cells #[.int .i64 16, .int .i64 8, .int .i64 0, .int .i64 0, .int .i64 8, .int .i64 16, .int .i64 24, .int .i64 16, .int .i64 8, .int .i64 8, .int .i64 16, .int .i64 24] 47)).alloc (.cells #[.int .i64 8, .int .i64 16, .int .i64 24] 46)) none := gb_trans (gb_trans (World.grownBy_alloc _ _ _) (World.grownBy_alloc _ _ _)) (World.grownBy_alloc _ _ _)
  generalize ((W.alloc (.cells #[.int .u8 (c0 : Int), .int .u8 (c1 : Int), .int .u8 (c2 : Int), .int .u8 (c3 : Int)] 42)).alloc (.cells #[.int .i64 16, .int .i64 8, .int .i64 0, .int .i64 0, .int .i64 8, .int .i64 16, .int .i64 24, .int .i64 16, .int .i64 8, .int .i64 8, .int .i64 16, .int .i64 24] 47)).alloc (.cells #[.int .i64 8, .int .i64 16, .int .i64 24] 46) = w3 at hA hL hG ⊢
  have l0 : w3.cell? ⟨W.heap.size + 1 + 1, 0, none⟩ = some (.int .i64 8) := blk_cell hL 0
  have l1 : w3.cell? ⟨W.heap.size + 1 + 1, 1, none⟩ = some (.int .i64 16) := blk_cell hL 1
  have l2 : w3.cell? ⟨W.heap.size + 1 + 1, 2, none⟩ = some (.int .i64 24) := blk_cell hL 2
  have y3 : w3.cell? ⟨W.heap.size, 3, none⟩ = some (.int .u8 c3) := blk_cell hA 3
  have yf := blk_free hA 3
  have HA3 := Lib.hid hA
  have HG3 := Lib.hid hG
  clear hA hL hG
  go_quiet (fail)
  clear s0 s1 s2
  go_wp2_with fail
  refine (KF'.out _ (Nat.lt_of_lt_of_le hlt (World.grownBy.size (gb_own (gb_trans HG3.out (gb_drewN _ _ _)) (Nat.le_refl _) (gb_set _ _ _ _)))) (HT.out.grown hlt (gb_own (gb_trans HG3.out (gb_drewN _ _ _)) (Nat.le_refl _) (gb_set _ _ _ _)))).mono ?_
  rintro e w4 ⟨rfl, g4⟩
  have A4 : w4.heap[W.heap.size]? = some (.cells #[.int .u8 (c0 : Int), .int .u8 (c1 : Int), .int .u8 (c2 : Int), .int .u8 255] 42 (0, 0)) := old0 g4 (blk_set (w := w3.drewN _) HA3.out 3 (.int .u8 255)) (blk_lt (blk_set (w := w3.drewN _) HA3.out 3 (.int .u8 255))) (by simp)
  have hl4 : W.heap.size < w4.heap.size := blk_lt A4
  have HA4 := Lib.hid A4
  have HG4 := Lib.hid (gb_trans (gb_own (gb_trans HG3.out (gb_drewN _ _ _)) (Nat.le_refl _) (gb_set _ _ _ _)) g4)
  have u0 : w4.cell? ⟨W.heap.size, 0, none⟩ = some (.int .u8 (c0 : Int)) := blk_cell A4 0
  have u1 : w4.cell? ⟨W.heap.size, 1, none⟩ = some (.int .u8 (c1 : Int)) := blk_cell A4 1
  have u2 : w4.cell? ⟨W.heap.size, 2, none⟩ = some (.int .u8 (c2 : Int)) := blk_cell A4 2
  have u3 : w4.cell? ⟨W.heap.size, 3, none⟩ = some (.int .u8 255) := blk_cell A4 3
  clear g4 A4 y3 yf l0 l1 l2
  go_wp2_with fail
  refine (KW'.out _).mono ?_
  rintro e w5 ⟨rfl, g5⟩
  have A5 : w5.heap[W.heap.size]? = some (.cells #[.int .u8 (c0 : Int), .int .u8 (c1 : Int), .int .u8 (c2 : Int), .int .u8 255] 42 (0, 0)) := old0 (gb_trans (World.grownBy_alloc w4 _ none) g5) HA4.out (blk_lt HA4.out) (by simp)
  have T5 : w5.heap[w4.heap.size]? = some (.cells #[.int .i64 8, .int .i64 8, .int .i64 16, .int .i64 8, .int .i64 24, .int .i64 8, .int .i64 0, .int .i64 0] 35 (0, 0)) := old1 g5 (by simp)
  have HG5 := Lib.hid (gb_trans (gb_trans HG4.out (World.grownBy_alloc w4 _ none)) g5)
  have x0 : w5.cell? ⟨W.heap.size, 0, none⟩ = some (.int .u8 (c0 : Int)) := blk_cell A5 0
  have x1 : w5.cell? ⟨W.heap.size, 1, none⟩ = some (.int .u8 (c1 : Int)) := blk_cell A5 1
  have x2 : w5.cell? ⟨W.heap.size, 2, none⟩ = some (.int .u8 (c2 : Int)) := blk_cell A5 2
  have x3 : w5.cell? ⟨W.heap.size, 3, none⟩ = some (.int .u8 255) := blk_cell A5 3
  have x4 : w5.cell? ⟨w4.heap.size, 0, none⟩ = some (.int .i64 8) := blk_cell T5 0
  have x5 : w5.cell? ⟨w4.heap.size, 1, none⟩ = some (.int .i64 8) := blk_cell T5 1
  have x6 : w5.cell? ⟨w4.heap.size, 2, none⟩ = some (.int .i64 16) := blk_cell T5 2
  have x7 : w5.cell? ⟨w4.heap.size, 3, none⟩ = some (.int .i64 8) := blk_cell T5 3
  have x8 : w5.cell? ⟨w4.heap.size, 4, none⟩ = some (.int .i64 24) := blk_cell T5 4
  have x9 : w5.cell? ⟨w4.heap.size, 5, none⟩ = some (.int .i64 8) := blk_cell T5 5
  have x10 : w5.cell? ⟨w4.heap.size, 6, none⟩ = some (.int .i64 0) := blk_cell T5 6
  have x11 : w5.cell? ⟨w4.heap.size, 7, none⟩ = some (.int .i64 0) := blk_cell T5 7
  have ha := HA.out
  clear g5 A5 T5 u0 u1 u2 u3
  go_wp2_with fail
  go_region_held3 (fun w' => w'.cell? ⟨W.heap.size, 0, none⟩ = some (.int .u8 (c0 : Int)) ∧ w'.cell? ⟨W.heap.size, 1, none⟩ = some (.int .u8 (c1 : Int)) ∧ w'.cell? ⟨W.heap.size, 2, none⟩ = some (.int .u8 (c2 : Int)) ∧ w'.cell? ⟨W.heap.size, 3, none⟩ = some (.int .u8 255) ∧ w'.cell? ⟨w4.heap.size, 0, none⟩ = some (.int .i64 8) ∧ w'.cell? ⟨w4.heap.size, 1, none⟩ = some (.int .i64 8) ∧ w'.cell? ⟨w4.heap.size, 2, none⟩ = some (.int .i64 16) ∧ w'.cell? ⟨w4.heap.size, 3, none⟩ = some (.int .i64 8) ∧ w'.cell? ⟨w4.heap.size, 4, none⟩ = some (.int .i64 24) ∧ w'.cell? ⟨w4.heap.size, 5, none⟩ = some (.int .i64 8) ∧ w'.cell? ⟨w4.heap.size, 6, none⟩ = some (.int .i64 0) ∧ w'.cell? ⟨w4.heap.size, 7, none⟩ = some (.int .i64 0)) (go_keep)
    (first | (go_at_call 16; with_reducible refine (KC'.out _).mono ?_; rintro e w6 ⟨rfl, g6o⟩; have g6 : w5.grownBy w6 none := (by first | exact gb_trans (gb_drew w5 _) g6o | exact g6o); clear g6o; have k0 : w6.cell? ⟨W.heap.size, 0, none⟩ = some (.int .u8 (c0 : Int)) := g6.cell x0 (by simp); have k1 : w6.cell? ⟨W.heap.size, 1, none⟩ = some (.int .u8 (c1 : Int)) := g6.cell x1 (by simp); have k2 : w6.cell? ⟨W.heap.size, 2, none⟩ = some (.int .u8 (c2 : Int)) := g6.cell x2 (by simp); have k3 : w6.cell? ⟨W.heap.size, 3, none⟩ = some (.int .u8 255) := g6.cell x3 (by simp); have k4 : w6.cell? ⟨w4.heap.size, 0, none⟩ = some (.int .i64 8) := g6.cell x4 (by simp); have k5 : w6.cell? ⟨w4.heap.size, 1, none⟩ = some (.int .i64 8) := g6.cell x5 (by simp); have k6 : w6.cell? ⟨w4.heap.size, 2, none⟩ = some (.int .i64 16) := g6.cell x6 (by simp); have k7 : w6.cell? ⟨w4.heap.size, 3, none⟩ = some (.int .i64 8) := g6.cell x7 (by simp); have k8 : w6.cell? ⟨w4.heap.size, 4, none⟩ = some (.int .i64 24) := g6.cell x8 (by simp); have k9 : w6.cell? ⟨w4.heap.size, 5, none⟩ = some (.int .i64 8) := g6.cell x9 (by simp); have k10 : w6.cell? ⟨w4.heap.size, 6, none⟩ = some (.int .i64 0) := g6.cell x10 (by simp); have k11 : w6.cell? ⟨w4.heap.size, 7, none⟩ = some (.int .i64 0) := g6.cell x11 (by simp); have HG6 := Lib.hid (gb_trans HG5.out g6); have AW := Lib.hid (awake_calls w6 (Nat.lt_of_lt_of_le hlt HG6.out.size) (HT.out.grown hlt HG6.out)); clear g6) | (go_at_call 12; with_reducible refine (AW.out).mono ?_; rintro e w7 ⟨rfl, g7⟩; have n0 : w7.cell? ⟨W.heap.size, 0, none⟩ = some (.int .u8 (c0 : Int)) := g7.cell k0 (by simp); have n1 : w7.cell? ⟨W.heap.size, 1, none⟩ = some (.int .u8 (c1 : Int)) := g7.cell k1 (by simp); have n2 : w7.cell? ⟨W.heap.size, 2, none⟩ = some (.int .u8 (c2 : Int)) := g7.cell k2 (by simp); have n3 : w7.cell? ⟨W.heap.size, 3, none⟩ = some (.int .u8 255) := g7.cell k3 (by simp); have n4 : w7.cell? ⟨w4.heap.size, 0, none⟩ = some (.int .i64 8) := g7.cell k4 (by simp); have n5 : w7.cell? ⟨w4.heap.size, 1, none⟩ = some (.int .i64 8) := g7.cell k5 (by simp); have n6 : w7.cell? ⟨w4.heap.size, 2, none⟩ = some (.int .i64 16) := g7.cell k6 (by simp); have n7 : w7.cell? ⟨w4.heap.size, 3, none⟩ = some (.int .i64 8) := g7.cell k7 (by simp); have n8 : w7.cell? ⟨w4.heap.size, 4, none⟩ = some (.int .i64 24) := g7.cell k8 (by simp); have n9 : w7.cell? ⟨w4.heap.size, 5, none⟩ = some (.int .i64 8) := g7.cell k9 (by simp); have n10 : w7.cell? ⟨w4.heap.size, 6, none⟩ = some (.int .i64 0) := g7.cell k10 (by simp); have n11 : w7.cell? ⟨w4.heap.size, 7, none⟩ = some (.int .i64 0) := g7.cell k11 (by simp); have HG7 := Lib.hid (gb_trans HG6.out g7); clear g7))
  all_goals
    go_wp2
    go_ret
    exact ⟨rfl, HG7.out⟩

end Go.Proofs.YtljbhahdaepecaaDoor.Ma
