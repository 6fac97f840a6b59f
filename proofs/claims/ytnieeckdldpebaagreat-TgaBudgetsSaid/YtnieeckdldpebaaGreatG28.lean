/- Texts of one kind, one behind the other: Tp6. -/
import Derived.Test.YtnieeckdldpebaaGreatG25
import Derived.Test.YtnieeckdldpebaaGreatG26
import Derived.Test.YtnieeckdldpebaaGreatG27
/- Layer 17: the document's Size and Pixel, walked (written by wip/gen/tp6.py). -/
namespace Go.Proofs.YtnieeckdldpebaaGreat.Tp
open Go.ChangeShapes Go.WideShapes Go.ChangeAt Go.RowKit
open Go.Proofs.YtnieeckdldpebaaGreat.Sc Go.Proofs.YtnieeckdldpebaaGreat.Le Go.Proofs.YtnieeckdldpebaaGreat.Pa Go.Proofs.YtnieeckdldpebaaGreat.Tg
set_option linter.unusedVariables false

set_option maxRecDepth 100000 in
theorem rs_8 (n0 mi n3 n4 n5 n6 n7 n9 : Int) (x2 : Nat) (lf tp : Bool) (W : World) : Calls Tryz.prog 62 #[.agg #[.int .i64 n0, .int .i64 mi, .int .i64 x2, .int .i64 n3, .int .i64 n4, .int .i64 n5, .int .i64 n6, .int .i64 n7, .int .i64 8, .int .i64 n9, .bool lf, .bool tp, .int .i64 0, .int .i64 0]] W fun e w' => e = .returned (.int .i64 1) ∧ W.grownBy w' none := by
  go_enter Tryz.func62, Tryz.ntmps62
  go_wp2
  go_ret
  exact ⟨rfl, World.grownBy_alloc _ _ _⟩

set_option maxRecDepth 100000 in
theorem rs_15 (n0 mi n3 n4 n5 n6 n7 n9 : Int) (x2 : Nat) (lf tp : Bool) (W : World) : Calls Tryz.prog 62 #[.agg #[.int .i64 n0, .int .i64 mi, .int .i64 x2, .int .i64 n3, .int .i64 n4, .int .i64 n5, .int .i64 n6, .int .i64 n7, .int .i64 15, .int .i64 n9, .bool lf, .bool tp, .int .i64 0, .int .i64 0]] W fun e w' => e = .returned (.int .i64 2) ∧ W.grownBy w' none := by
  go_enter Tryz.func62, Tryz.ntmps62
  go_wp2
  go_ret
  exact ⟨rfl, World.grownBy_alloc _ _ _⟩

set_option maxRecDepth 100000 in
theorem rs_16 (n0 mi n3 n4 n5 n6 n7 n9 : Int) (x2 : Nat) (lf tp : Bool) (W : World) : Calls Tryz.prog 62 #[.agg #[.int .i64 n0, .int .i64 mi, .int .i64 x2, .int .i64 n3, .int .i64 n4, .int .i64 n5, .int .i64 n6, .int .i64 n7, .int .i64 16, .int .i64 n9, .bool lf, .bool tp, .int .i64 0, .int .i64 0]] W fun e w' => e = .returned (.int .i64 2) ∧ W.grownBy w' none := by
  go_enter Tryz.func62, Tryz.ntmps62
  go_wp2
  go_ret
  exact ⟨rfl, World.grownBy_alloc _ _ _⟩

set_option maxRecDepth 100000 in
theorem rs_24 (n0 mi n3 n4 n5 n6 n7 n9 : Int) (x2 : Nat) (lf tp : Bool) (W : World) : Calls Tryz.prog 62 #[.agg #[.int .i64 n0, .int .i64 mi, .int .i64 x2, .int .i64 n3, .int .i64 n4, .int .i64 n5, .int .i64 n6, .int .i64 n7, .int .i64 24, .int .i64 n9, .bool lf, .bool tp, .int .i64 0, .int .i64 0]] W fun e w' => e = .returned (.int .i64 3) ∧ W.grownBy w' none := by
  go_enter Tryz.func62, Tryz.ntmps62
  go_wp2
  go_ret
  exact ⟨rfl, World.grownBy_alloc _ _ _⟩

set_option maxRecDepth 100000 in
theorem rs_32 (n0 mi n3 n4 n5 n6 n7 n9 : Int) (x2 : Nat) (lf tp : Bool) (W : World) : Calls Tryz.prog 62 #[.agg #[.int .i64 n0, .int .i64 mi, .int .i64 x2, .int .i64 n3, .int .i64 n4, .int .i64 n5, .int .i64 n6, .int .i64 n7, .int .i64 32, .int .i64 n9, .bool lf, .bool tp, .int .i64 0, .int .i64 0]] W fun e w' => e = .returned (.int .i64 4) ∧ W.grownBy w' none := by
  go_enter Tryz.func62, Tryz.ntmps62
  go_wp2
  go_ret
  exact ⟨rfl, World.grownBy_alloc _ _ _⟩

set_option maxRecDepth 100000 in
set_option maxHeartbeats 2000000 in
theorem rPixel_no (n0 mi n3 n4 n5 n6 n7 n8 n9 : Int) (x2 : Nat) (lf tp : Bool) (s : ByteArray) (o sz : Nat) (lv : Value) (hn : s.size < o + sz) (W : World) (hm : s.size ≤ 9223372036854775807) (ho : o ≤ s.size) (hsz : sz ≤ 4) (hm4 : s.size ≤ 4611686018427387904)
    (KS0 : ∀ u, Calls Tryz.prog 62 #[.agg #[.int .i64 n0, .int .i64 mi, .int .i64 x2, .int .i64 n3, .int .i64 n4, .int .i64 n5, .int .i64 n6, .int .i64 n7, .int .i64 n8, .int .i64 n9, .bool lf, .bool tp, .int .i64 0, .int .i64 0]] u fun e w' => e = .returned (.int .i64 sz) ∧ u.grownBy w' none) :
    Calls Tryz.prog 63 #[.string s, .int .i64 o, .agg #[.int .i64 n0, .int .i64 mi, .int .i64 x2, .int .i64 n3, .int .i64 n4, .int .i64 n5, .int .i64 n6, .int .i64 n7, .int .i64 n8, .int .i64 n9, .bool lf, .bool tp, .int .i64 0, .int .i64 0], lv] W fun e w' => e = .returned (.tuple #[.agg #[.int .u8 0, .int .u8 0, .int .u8 0, .int .u8 0], .int .i64 1, .int .i64 s.size]) ∧ W.grownBy w' none := by
  have KS := Lib.hid KS0
  have hw : IntKind.i64.wrap ((o : Int) + sz) = (o : Int) + sz := IntWalk.i64_in _ (by omega)
  have hn1 : (s.size : Int) < (o : Int) + sz := by omega
  clear KS0
  go_enter Tryz.func63, Tryz.ntmps63
  go_wp2_with fail
  have hH : ((W.alloc (.cells #[.int .i64 n0, .int .i64 mi, .int .i64 x2, .int .i64 n3, .int .i64 n4, .int .i64 n5, .int .i64 n6, .int .i64 n7, .int .i64 n8, .int .i64 n9, .bool lf, .bool tp, .int .i64 0, .int .i64 0] 57)).alloc (.cells #[.int .u8 0, .int .u8 0, .int .u8 0, .int .u8 0] 135)).heap[W.heap.size]? = some (.cells #[.int .i64 n0, .int .i64 mi, .int .i64 x2, .int .i64 n3, .int .i64 n4, .int .i64 n5, .int .i64 n6, .int .i64 n7, .int .i64 n8, .int .i64 n9, .bool lf, .bool tp, .int .i64 0, .int .i64 0] 57 (0, 0)) := blk_al blk_at _
  have hR : ((W.alloc (.cells #[.int .i64 n0, .int .i64 mi, .int .i64 x2, .int .i64 n3, .int .i64 n4, .int .i64 n5, .int .i64 n6, .int .i64 n7, .int .i64 n8, .int .i64 n9, .bool lf, .bool tp, .int .i64 0, .int .i64 0] 57)).alloc (.cells #[.int .u8 0, .int .u8 0, .int .u8 0, .int .u8 0] 135)).heap[W.heap.size + 1]? = some (.cells #[.int .u8 0, .int .u8 0, .int .u8 0, .int .u8 0] 135 (0, 0)) := by rw [← size_alloc W (.cells #[.int .i64 n0, .int .i64 mi, .int .i64 x2, .int .i64 n3, .int .i64 n4, .int .i64 n5, .int .i64 n6, .int .i64 n7, .int .i64 n8, .int .i64 n9, .bool lf, .bool tp, .int .i64 0, .int .i64 0] 57)]; exact blk_at
  have hG : W.grownBy ((W.alloc (.cells #[.int .i64 n0, .int .i64 mi, .int .i64 x2, .int .i64 n3, .int .i64 n4, .int .i64 n5, .int .i64 n6, .int .i64 n7, .int .i64 n8, .int .i64 n9, .bool lf, .bool tp, .int .i64 0, .int .i64 0] 57)).alloc (.cells #[.int .u8 0, .int .u8 0, .int .u8 0, .int .u8 0] 135)) none := gb_trans (World.grownBy_alloc _ _ _) (World.grownBy_alloc _ _ _)
  obtain ⟨hb, hhb⟩ : ∃ r, W.heap.size = r := ⟨_, rfl⟩
  rw [hhb] at hH hR ⊢
  have HHB := Lib.hid hhb
  generalize (W.alloc (.cells #[.int .i64 n0, .int .i64 mi, .int .i64 x2, .int .i64 n3, .int .i64 n4, .int .i64 n5, .int .i64 n6, .int .i64 n7, .int .i64 n8, .int .i64 n9, .bool lf, .bool tp, .int .i64 0, .int .i64 0] 57)).alloc (.cells #[.int .u8 0, .int .u8 0, .int .u8 0, .int .u8 0] 135) = w0 at hH hR hG ⊢
  have HH := Lib.hid hH
  have HR := Lib.hid hR
  have HG := Lib.hid hG
  have hl0 := blk_lt hH
  have hl1 := blk_lt hR
  clear hH hR hG hhb
  have h0 : w0.cell? ⟨hb, 0, none⟩ = some (.int .i64 n0) := blk_cell HH.out 0
  have h1 : w0.cell? ⟨hb, 1, none⟩ = some (.int .i64 mi) := blk_cell HH.out 1
  have h2 : w0.cell? ⟨hb, 2, none⟩ = some (.int .i64 x2) := blk_cell HH.out 2
  have h3 : w0.cell? ⟨hb, 3, none⟩ = some (.int .i64 n3) := blk_cell HH.out 3
  have h4 : w0.cell? ⟨hb, 4, none⟩ = some (.int .i64 n4) := blk_cell HH.out 4
  have h5 : w0.cell? ⟨hb, 5, none⟩ = some (.int .i64 n5) := blk_cell HH.out 5
  have h6 : w0.cell? ⟨hb, 6, none⟩ = some (.int .i64 n6) := blk_cell HH.out 6
  have h7 : w0.cell? ⟨hb, 7, none⟩ = some (.int .i64 n7) := blk_cell HH.out 7
  have h8 : w0.cell? ⟨hb, 8, none⟩ = some (.int .i64 n8) := blk_cell HH.out 8
  have h9 : w0.cell? ⟨hb, 9, none⟩ = some (.int .i64 n9) := blk_cell HH.out 9
  have h10 : w0.cell? ⟨hb, 10, none⟩ = some (.bool lf) := blk_cell HH.out 10
  have h11 : w0.cell? ⟨hb, 11, none⟩ = some (.bool tp) := blk_cell HH.out 11
  have h12 : w0.cell? ⟨hb, 12, none⟩ = some (.int .i64 0) := blk_cell HH.out 12
  have h13 : w0.cell? ⟨hb, 13, none⟩ = some (.int .i64 0) := blk_cell HH.out 13
  refine (KS.out _).mono ?_
  rintro e w1 ⟨rfl, g1⟩
  have hH1 := old0 g1 HH.out (blk_lt HH.out) (by simp)
  have hR1 := old0 g1 HR.out (blk_lt HR.out) (by simp)
  have HG1 := Lib.hid (gb_trans HG.out g1)
  have HGX := Lib.hid g1
  clear g1 h0 h1 h2 h3 h4 h5 h6 h7 h8 h9 h10 h11 h12 h13 hl0 hl1
  have h0 : w1.cell? ⟨hb, 0, none⟩ = some (.int .i64 n0) := blk_cell hH1 0
  have h1 : w1.cell? ⟨hb, 1, none⟩ = some (.int .i64 mi) := blk_cell hH1 1
  have h2 : w1.cell? ⟨hb, 2, none⟩ = some (.int .i64 x2) := blk_cell hH1 2
  have h3 : w1.cell? ⟨hb, 3, none⟩ = some (.int .i64 n3) := blk_cell hH1 3
  have h4 : w1.cell? ⟨hb, 4, none⟩ = some (.int .i64 n4) := blk_cell hH1 4
  have h5 : w1.cell? ⟨hb, 5, none⟩ = some (.int .i64 n5) := blk_cell hH1 5
  have h6 : w1.cell? ⟨hb, 6, none⟩ = some (.int .i64 n6) := blk_cell hH1 6
  have h7 : w1.cell? ⟨hb, 7, none⟩ = some (.int .i64 n7) := blk_cell hH1 7
  have h8 : w1.cell? ⟨hb, 8, none⟩ = some (.int .i64 n8) := blk_cell hH1 8
  have h9 : w1.cell? ⟨hb, 9, none⟩ = some (.int .i64 n9) := blk_cell hH1 9
  have h10 : w1.cell? ⟨hb, 10, none⟩ = some (.bool lf) := blk_cell hH1 10
  have h11 : w1.cell? ⟨hb, 11, none⟩ = some (.bool tp) := blk_cell hH1 11
  have h12 : w1.cell? ⟨hb, 12, none⟩ = some (.int .i64 0) := blk_cell hH1 12
  have h13 : w1.cell? ⟨hb, 13, none⟩ = some (.int .i64 0) := blk_cell hH1 13
  have r0 : w1.cell? ⟨hb + 1, 0, none⟩ = some (.int .u8 0) := blk_cell hR1 0
  have rf0 := blk_free hR1 0
  have r1 : w1.cell? ⟨hb + 1, 1, none⟩ = some (.int .u8 0) := blk_cell hR1 1
  have rf1 := blk_free hR1 1
  have r2 : w1.cell? ⟨hb + 1, 2, none⟩ = some (.int .u8 0) := blk_cell hR1 2
  have rf2 := blk_free hR1 2
  have r3 : w1.cell? ⟨hb + 1, 3, none⟩ = some (.int .u8 0) := blk_cell hR1 3
  have rf3 := blk_free hR1 3
  have hl0 := blk_lt hH1
  have hl1 := blk_lt hR1
  clear HH HR HG
  have n1 : hb ≠ hb + 1 := by omega
  have n2 : hb + 1 ≠ hb := by omega
  go_wp2
  refine bodyPost_ret (v := .tuple #[.agg #[.int .u8 0, .int .u8 0, .int .u8 0, .int .u8 0], .int .i64 1, .int .i64 s.size]) (by simp only [results, Tryz.results63]; go_simp) rfl ⟨rfl, ?_⟩
  have h1 := HHB.out
  repeat' first | with_reducible exact HG1.out | with_reducible refine gb_own ?_ (by omega) (gb_set _ _ _ _) | with_reducible refine gb_trans ?_ (gb_drew _ _) | with_reducible refine gb_trans ?_ (World.grownBy_alloc _ _ _)

set_option maxRecDepth 100000 in
set_option maxHeartbeats 2000000 in
theorem rPixel_col (n0 mi n3 n4 n5 n6 n7 n8 n9 : Int) (x2 : Nat) (lf tp : Bool) (s : ByteArray) (o sz : Nat) (lv : Value) (c0 c1 c2 c3 : Int) (hn : o + sz ≤ s.size) (h8 : (n8 != 8) = true) (KC0 : ∀ u, Calls Tryz.prog 106 #[.string (s.extract o s.size), .int .i64 n8, .int .i64 n9] u fun e w' => e = .returned (.agg #[.int .u8 c0, .int .u8 c1, .int .u8 c2, .int .u8 c3]) ∧ u.grownBy w' none) (W : World) (hm : s.size ≤ 9223372036854775807) (ho : o ≤ s.size) (hsz : sz ≤ 4) (hm4 : s.size ≤ 4611686018427387904)
    (KS0 : ∀ u, Calls Tryz.prog 62 #[.agg #[.int .i64 n0, .int .i64 mi, .int .i64 x2, .int .i64 n3, .int .i64 n4, .int .i64 n5, .int .i64 n6, .int .i64 n7, .int .i64 n8, .int .i64 n9, .bool lf, .bool tp, .int .i64 0, .int .i64 0]] u fun e w' => e = .returned (.int .i64 sz) ∧ u.grownBy w' none) :
    Calls Tryz.prog 63 #[.string s, .int .i64 o, .agg #[.int .i64 n0, .int .i64 mi, .int .i64 x2, .int .i64 n3, .int .i64 n4, .int .i64 n5, .int .i64 n6, .int .i64 n7, .int .i64 n8, .int .i64 n9, .bool lf, .bool tp, .int .i64 0, .int .i64 0], lv] W fun e w' => e = .returned (.tuple #[.agg #[.int .u8 c0, .int .u8 c1, .int .u8 c2, .int .u8 c3], .int .i64 0, .int .i64 0]) ∧ W.grownBy w' none := by
  have KS := Lib.hid KS0
  have hw : IntKind.i64.wrap ((o : Int) + sz) = (o : Int) + sz := IntWalk.i64_in _ (by omega)
  have hn1 : ¬ (s.size : Int) < (o : Int) + sz := by omega
  have KC := Lib.hid KC0
  have hsl := fun u => tail_at s o ho u
  clear KS0 KC0
  go_enter Tryz.func63, Tryz.ntmps63
  go_wp2_with fail
  have hH : ((W.alloc (.cells #[.int .i64 n0, .int .i64 mi, .int .i64 x2, .int .i64 n3, .int .i64 n4, .int .i64 n5, .int .i64 n6, .int .i64 n7, .int .i64 n8, .int .i64 n9, .bool lf, .bool tp, .int .i64 0, .int .i64 0] 57)).alloc (.cells #[.int .u8 0, .int .u8 0, .int .u8 0, .int .u8 0] 135)).heap[W.heap.size]? = some (.cells #[.int .i64 n0, .int .i64 mi, .int .i64 x2, .int .i64 n3, .int .i64 n4, .int .i64 n5, .int .i64 n6, .int .i64 n7, .int .i64 n8, .int .i64 n9, .bool lf, .bool tp, .int .i64 0, .int .i64 0] 57 (0, 0)) := blk_al blk_at _
  have hR : ((W.alloc (.cells #[.int .i64 n0, .int .i64 mi, .int .i64 x2, .int .i64 n3, .int .i64 n4, .int .i64 n5, .int .i64 n6, .int .i64 n7, .int .i64 n8, .int .i64 n9, .bool lf, .bool tp, .int .i64 0, .int .i64 0] 57)).alloc (.cells #[.int .u8 0, .int .u8 0, .int .u8 0, .int .u8 0] 135)).heap[W.heap.size + 1]? = some (.cells #[.int .u8 0, .int .u8 0, .int .u8 0, .int .u8 0] 135 (0, 0)) := by rw [← size_alloc W (.cells #[.int .i64 n0, .int .i64 mi, .int .i64 x2, .int .i64 n3, .int .i64 n4, .int .i64 n5, .int .i64 n6, .int .i64 n7, .int .i64 n8, .int .i64 n9, .bool lf, .bool tp, .int .i64 0, .int .i64 0] 57)]; exact blk_at
  have hG : W.grownBy ((W.alloc (.cells #[.int .i64 n0, .int .i64 mi, .int .i64 x2, .int .i64 n3, .int .i64 n4, .int .i64 n5, .int .i64 n6, .int .i64 n7, .int .i64 n8, .int .i64 n9, .bool lf, .bool tp, .int .i64 0, .int .i64 0] 57)).alloc (.cells #[.int .u8 0, .int .u8 0, .int .u8 0, .int .u8 0] 135)) none := gb_trans (World.grownBy_alloc _ _ _) (World.grownBy_alloc _ _ _)
  obtain ⟨hb, hhb⟩ : ∃ r, W.heap.size = r := ⟨_, rfl⟩
  rw [hhb] at hH hR ⊢
  have HHB := Lib.hid hhb
  generalize (W.alloc (.cells #[.int .i64 n0, .int .i64 mi, .int .i64 x2, .int .i64 n3, .int .i64 n4, .int .i64 n5, .int .i64 n6, .int .i64 n7, .int .i64 n8, .int .i64 n9, .bool lf, .bool tp, .int .i64 0, .int .i64 0] 57)).alloc (.cells #[.int .u8 0, .int .u8 0, .int .u8 0, .int .u8 0] 135) = w0 at hH hR hG ⊢
  have HH := Lib.hid hH
  have HR := Lib.hid hR
  have HG := Lib.hid hG
  have hl0 := blk_lt hH
  have hl1 := blk_lt hR
  clear hH hR hG hhb
  have h0 : w0.cell? ⟨hb, 0, none⟩ = some (.int .i64 n0) := blk_cell HH.out 0
  have h1 : w0.cell? ⟨hb, 1, none⟩ = some (.int .i64 mi) := blk_cell HH.out 1
  have h2 : w0.cell? ⟨hb, 2, none⟩ = some (.int .i64 x2) := blk_cell HH.out 2
  have h3 : w0.cell? ⟨hb, 3, none⟩ = some (.int .i64 n3) := blk_cell HH.out 3
  have h4 : w0.cell? ⟨hb, 4, none⟩ = some (.int .i64 n4) := blk_cell HH.out 4
  have h5 : w0.cell? ⟨hb, 5, none⟩ = some (.int .i64 n5) := blk_cell HH.out 5
  have h6 : w0.cell? ⟨hb, 6, none⟩ = some (.int .i64 n6) := blk_cell HH.out 6
  have h7 : w0.cell? ⟨hb, 7, none⟩ = some (.int .i64 n7) := blk_cell HH.out 7
  have h8 : w0.cell? ⟨hb, 8, none⟩ = some (.int .i64 n8) := blk_cell HH.out 8
  have h9 : w0.cell? ⟨hb, 9, none⟩ = some (.int .i64 n9) := blk_cell HH.out 9
  have h10 : w0.cell? ⟨hb, 10, none⟩ = some (.bool lf) := blk_cell HH.out 10
  have h11 : w0.cell? ⟨hb, 11, none⟩ = some (.bool tp) := blk_cell HH.out 11
  have h12 : w0.cell? ⟨hb, 12, none⟩ = some (.int .i64 0) := blk_cell HH.out 12
  have h13 : w0.cell? ⟨hb, 13, none⟩ = some (.int .i64 0) := blk_cell HH.out 13
  refine (KS.out _).mono ?_
  rintro e w1 ⟨rfl, g1⟩
  have hH1 := old0 g1 HH.out (blk_lt HH.out) (by simp)
  have hR1 := old0 g1 HR.out (blk_lt HR.out) (by simp)
  have HG1 := Lib.hid (gb_trans HG.out g1)
  have HGX := Lib.hid g1
  clear g1 h0 h1 h2 h3 h4 h5 h6 h7 h8 h9 h10 h11 h12 h13 hl0 hl1
  have h0 : w1.cell? ⟨hb, 0, none⟩ = some (.int .i64 n0) := blk_cell hH1 0
  have h1 : w1.cell? ⟨hb, 1, none⟩ = some (.int .i64 mi) := blk_cell hH1 1
  have h2 : w1.cell? ⟨hb, 2, none⟩ = some (.int .i64 x2) := blk_cell hH1 2
  have h3 : w1.cell? ⟨hb, 3, none⟩ = some (.int .i64 n3) := blk_cell hH1 3
  have h4 : w1.cell? ⟨hb, 4, none⟩ = some (.int .i64 n4) := blk_cell hH1 4
  have h5 : w1.cell? ⟨hb, 5, none⟩ = some (.int .i64 n5) := blk_cell hH1 5
  have h6 : w1.cell? ⟨hb, 6, none⟩ = some (.int .i64 n6) := blk_cell hH1 6
  have h7 : w1.cell? ⟨hb, 7, none⟩ = some (.int .i64 n7) := blk_cell hH1 7
  have h8 : w1.cell? ⟨hb, 8, none⟩ = some (.int .i64 n8) := blk_cell hH1 8
  have h9 : w1.cell? ⟨hb, 9, none⟩ = some (.int .i64 n9) := blk_cell hH1 9
  have h10 : w1.cell? ⟨hb, 10, none⟩ = some (.bool lf) := blk_cell hH1 10
  have h11 : w1.cell? ⟨hb, 11, none⟩ = some (.bool tp) := blk_cell hH1 11
  have h12 : w1.cell? ⟨hb, 12, none⟩ = some (.int .i64 0) := blk_cell hH1 12
  have h13 : w1.cell? ⟨hb, 13, none⟩ = some (.int .i64 0) := blk_cell hH1 13
  have r0 : w1.cell? ⟨hb + 1, 0, none⟩ = some (.int .u8 0) := blk_cell hR1 0
  have rf0 := blk_free hR1 0
  have r1 : w1.cell? ⟨hb + 1, 1, none⟩ = some (.int .u8 0) := blk_cell hR1 1
  have rf1 := blk_free hR1 1
  have r2 : w1.cell? ⟨hb + 1, 2, none⟩ = some (.int .u8 0) := blk_cell hR1 2
  have rf2 := blk_free hR1 2
  have r3 : w1.cell? ⟨hb + 1, 3, none⟩ = some (.int .u8 0) := blk_cell hR1 3
  have rf3 := blk_free hR1 3
  have hl0 := blk_lt hH1
  have hl1 := blk_lt hR1
  clear HH HR HG
  have HR1 := Lib.hid hR1
  clear hR1 hH1
  go_wp2_with fail
  go_region_with (go_at_call 106; refine (KC.out _).mono ?_; rintro e w2 ⟨rfl, g2⟩; have HG2 := Lib.hid (show W.grownBy w2 none from by first | exact gb_trans (gb_trans HG1.out (gb_drew _ _)) g2 | exact gb_trans HG1.out g2); have hR2 : w2.heap[hb + 1]? = some (.cells #[.int .u8 0, .int .u8 0, .int .u8 0, .int .u8 0] 135 (0, 0)) := (by first | exact old0 g2 (show w1.drew.heap[hb + 1]? = _ from HR1.out) (blk_lt (w := w1.drew) HR1.out) (by simp) | exact old0 g2 HR1.out (blk_lt HR1.out) (by simp)); have y0 : w2.cell? ⟨hb + 1, 0, none⟩ = some (.int .u8 0) := blk_cell hR2 0; have yf0 := blk_free hR2 0; have y1 : w2.cell? ⟨hb + 1, 1, none⟩ = some (.int .u8 0) := blk_cell hR2 1; have yf1 := blk_free hR2 1; have y2 : w2.cell? ⟨hb + 1, 2, none⟩ = some (.int .u8 0) := blk_cell hR2 2; have yf2 := blk_free hR2 2; have y3 : w2.cell? ⟨hb + 1, 3, none⟩ = some (.int .u8 0) := blk_cell hR2 3; have yf3 := blk_free hR2 3; have hl2 := blk_lt hR2)
  all_goals
    have n1 : hb ≠ hb + 1 := by omega
    have n2 : hb + 1 ≠ hb := by omega
    go_wp2
    refine bodyPost_ret (v := .tuple #[.agg #[.int .u8 c0, .int .u8 c1, .int .u8 c2, .int .u8 c3], .int .i64 0, .int .i64 0]) (by simp only [results, Tryz.results63]; go_simp) rfl ⟨rfl, ?_⟩
    have h1 := HHB.out
    repeat' first | with_reducible exact HG2.out | with_reducible refine gb_own ?_ (by omega) (gb_set _ _ _ _) | with_reducible refine gb_trans ?_ (gb_drew _ _) | with_reducible refine gb_trans ?_ (World.grownBy_alloc _ _ _)

set_option maxRecDepth 100000 in
set_option maxHeartbeats 2000000 in
theorem rPixel_grey3 (n0 mi n3 n4 n5 n6 n7 n8 n9 : Int) (lf tp : Bool) (s : ByteArray) (o sz : Nat) (lv : Value) (v : Nat) (hn : o + sz ≤ s.size) (h8 : (n8 != 8) = false) (hx : o < s.size) (hv : (s[o]'hx).toNat = v) (W : World) (hm : s.size ≤ 9223372036854775807) (ho : o ≤ s.size) (hsz : sz ≤ 4) (hm4 : s.size ≤ 4611686018427387904)
    (KS0 : ∀ u, Calls Tryz.prog 62 #[.agg #[.int .i64 n0, .int .i64 mi, .int .i64 3, .int .i64 n3, .int .i64 n4, .int .i64 n5, .int .i64 n6, .int .i64 n7, .int .i64 n8, .int .i64 n9, .bool lf, .bool tp, .int .i64 0, .int .i64 0]] u fun e w' => e = .returned (.int .i64 sz) ∧ u.grownBy w' none) :
    Calls Tryz.prog 63 #[.string s, .int .i64 o, .agg #[.int .i64 n0, .int .i64 mi, .int .i64 3, .int .i64 n3, .int .i64 n4, .int .i64 n5, .int .i64 n6, .int .i64 n7, .int .i64 n8, .int .i64 n9, .bool lf, .bool tp, .int .i64 0, .int .i64 0], lv] W fun e w' => e = .returned (.tuple #[.agg #[.int .u8 v, .int .u8 v, .int .u8 v, .int .u8 255], .int .i64 0, .int .i64 0]) ∧ W.grownBy w' none := by
  have KS := Lib.hid KS0
  have hw : IntKind.i64.wrap ((o : Int) + sz) = (o : Int) + sz := IntWalk.i64_in _ (by omega)
  have hn1 : ¬ (s.size : Int) < (o : Int) + sz := by omega
  have g0 : ((s[o]'hx).toNat : Int) = v := by rw [hv]
  have hv255 : v < 256 := by rw [← hv]; exact UInt8.toNat_lt _
  have i0 : (o : Int) < (s.size : Int) := by omega
  have v1 : IntKind.i64.wrap (v : Int) = v := IntWalk.i64_in _ (by omega)
  clear KS0 hv
  go_enter Tryz.func63, Tryz.ntmps63
  go_wp2_with fail
  have hH : ((W.alloc (.cells #[.int .i64 n0, .int .i64 mi, .int .i64 3, .int .i64 n3, .int .i64 n4, .int .i64 n5, .int .i64 n6, .int .i64 n7, .int .i64 n8, .int .i64 n9, .bool lf, .bool tp, .int .i64 0, .int .i64 0] 57)).alloc (.cells #[.int .u8 0, .int .u8 0, .int .u8 0, .int .u8 0] 135)).heap[W.heap.size]? = some (.cells #[.int .i64 n0, .int .i64 mi, .int .i64 3, .int .i64 n3, .int .i64 n4, .int .i64 n5, .int .i64 n6, .int .i64 n7, .int .i64 n8, .int .i64 n9, .bool lf, .bool tp, .int .i64 0, .int .i64 0] 57 (0, 0)) := blk_al blk_at _
  have hR : ((W.alloc (.cells #[.int .i64 n0, .int .i64 mi, .int .i64 3, .int .i64 n3, .int .i64 n4, .int .i64 n5, .int .i64 n6, .int .i64 n7, .int .i64 n8, .int .i64 n9, .bool lf, .bool tp, .int .i64 0, .int .i64 0] 57)).alloc (.cells #[.int .u8 0, .int .u8 0, .int .u8 0, .int .u8 0] 135)).heap[W.heap.size + 1]? = some (.cells #[.int .u8 0, .int .u8 0, .int .u8 0, .int .u8 0] 135 (0, 0)) := by rw [← size_alloc W (.cells #[.int .i64 n0, .int .i64 mi, .int .i64 3, .int .i64 n3, .int .i64 n4, .int .i64 n5, .int .i64 n6, .int .i64 n7, .int .i64 n8, .int .i64 n9, .bool lf, .bool tp, .int .i64 0, .int .i64 0] 57)]; exact blk_at
  have hG : W.grownBy ((W.alloc (.cells #[.int .i64 n0, .int .i64 mi, .int .i64 3, .int .i64 n3, .int .i64 n4, .int .i64 n5, .int .i64 n6, .int .i64 n7, .int .i64 n8, .int .i64 n9, .bool lf, .bool tp, .int .i64 0, .int .i64 0] 57)).alloc (.cells #[.int .u8 0, .int .u8 0, .int .u8 0, .int .u8 0] 135)) none := gb_trans (World.grownBy_alloc _ _ _) (World.grownBy_alloc _ _ _)
  obtain ⟨hb, hhb⟩ : ∃ r, W.heap.size = r := ⟨_, rfl⟩
  rw [hhb] at hH hR ⊢
  have HHB := Lib.hid hhb
  generalize (W.alloc (.cells #[.int .i64 n0, .int .i64 mi, .int .i64 3, .int .i64 n3, .int .i64 n4, .int .i64 n5, .int .i64 n6, .int .i64 n7, .int .i64 n8, .int .i64 n9, .bool lf, .bool tp, .int .i64 0, .int .i64 0] 57)).alloc (.cells #[.int .u8 0, .int .u8 0, .int .u8 0, .int .u8 0] 135) = w0 at hH hR hG ⊢
  have HH := Lib.hid hH
  have HR := Lib.hid hR
  have HG := Lib.hid hG
  have hl0 := blk_lt hH
  have hl1 := blk_lt hR
  clear hH hR hG hhb
  have h0 : w0.cell? ⟨hb, 0, none⟩ = some (.int .i64 n0) := blk_cell HH.out 0
  have h1 : w0.cell? ⟨hb, 1, none⟩ = some (.int .i64 mi) := blk_cell HH.out 1
  have h2 : w0.cell? ⟨hb, 2, none⟩ = some (.int .i64 3) := blk_cell HH.out 2
  have h3 : w0.cell? ⟨hb, 3, none⟩ = some (.int .i64 n3) := blk_cell HH.out 3
  have h4 : w0.cell? ⟨hb, 4, none⟩ = some (.int .i64 n4) := blk_cell HH.out 4
  have h5 : w0.cell? ⟨hb, 5, none⟩ = some (.int .i64 n5) := blk_cell HH.out 5
  have h6 : w0.cell? ⟨hb, 6, none⟩ = some (.int .i64 n6) := blk_cell HH.out 6
  have h7 : w0.cell? ⟨hb, 7, none⟩ = some (.int .i64 n7) := blk_cell HH.out 7
  have h8 : w0.cell? ⟨hb, 8, none⟩ = some (.int .i64 n8) := blk_cell HH.out 8
  have h9 : w0.cell? ⟨hb, 9, none⟩ = some (.int .i64 n9) := blk_cell HH.out 9
  have h10 : w0.cell? ⟨hb, 10, none⟩ = some (.bool lf) := blk_cell HH.out 10
  have h11 : w0.cell? ⟨hb, 11, none⟩ = some (.bool tp) := blk_cell HH.out 11
  have h12 : w0.cell? ⟨hb, 12, none⟩ = some (.int .i64 0) := blk_cell HH.out 12
  have h13 : w0.cell? ⟨hb, 13, none⟩ = some (.int .i64 0) := blk_cell HH.out 13
  refine (KS.out _).mono ?_
  rintro e w1 ⟨rfl, g1⟩
  have hH1 := old0 g1 HH.out (blk_lt HH.out) (by simp)
  have hR1 := old0 g1 HR.out (blk_lt HR.out) (by simp)
  have HG1 := Lib.hid (gb_trans HG.out g1)
  have HGX := Lib.hid g1
  clear g1 h0 h1 h2 h3 h4 h5 h6 h7 h8 h9 h10 h11 h12 h13 hl0 hl1
  have h0 : w1.cell? ⟨hb, 0, none⟩ = some (.int .i64 n0) := blk_cell hH1 0
  have h1 : w1.cell? ⟨hb, 1, none⟩ = some (.int .i64 mi) := blk_cell hH1 1
  have h2 : w1.cell? ⟨hb, 2, none⟩ = some (.int .i64 3) := blk_cell hH1 2
  have h3 : w1.cell? ⟨hb, 3, none⟩ = some (.int .i64 n3) := blk_cell hH1 3
  have h4 : w1.cell? ⟨hb, 4, none⟩ = some (.int .i64 n4) := blk_cell hH1 4
  have h5 : w1.cell? ⟨hb, 5, none⟩ = some (.int .i64 n5) := blk_cell hH1 5
  have h6 : w1.cell? ⟨hb, 6, none⟩ = some (.int .i64 n6) := blk_cell hH1 6
  have h7 : w1.cell? ⟨hb, 7, none⟩ = some (.int .i64 n7) := blk_cell hH1 7
  have h8 : w1.cell? ⟨hb, 8, none⟩ = some (.int .i64 n8) := blk_cell hH1 8
  have h9 : w1.cell? ⟨hb, 9, none⟩ = some (.int .i64 n9) := blk_cell hH1 9
  have h10 : w1.cell? ⟨hb, 10, none⟩ = some (.bool lf) := blk_cell hH1 10
  have h11 : w1.cell? ⟨hb, 11, none⟩ = some (.bool tp) := blk_cell hH1 11
  have h12 : w1.cell? ⟨hb, 12, none⟩ = some (.int .i64 0) := blk_cell hH1 12
  have h13 : w1.cell? ⟨hb, 13, none⟩ = some (.int .i64 0) := blk_cell hH1 13
  have r0 : w1.cell? ⟨hb + 1, 0, none⟩ = some (.int .u8 0) := blk_cell hR1 0
  have rf0 := blk_free hR1 0
  have r1 : w1.cell? ⟨hb + 1, 1, none⟩ = some (.int .u8 0) := blk_cell hR1 1
  have rf1 := blk_free hR1 1
  have r2 : w1.cell? ⟨hb + 1, 2, none⟩ = some (.int .u8 0) := blk_cell hR1 2
  have rf2 := blk_free hR1 2
  have r3 : w1.cell? ⟨hb + 1, 3, none⟩ = some (.int .u8 0) := blk_cell hR1 3
  have rf3 := blk_free hR1 3
  have hl0 := blk_lt hH1
  have hl1 := blk_lt hR1
  clear HH HR HG
  clear hH1 hR1 HGX
  go_wp2_with fail
  go_region
  have n1 : hb ≠ hb + 1 := by omega
  have n2 : hb + 1 ≠ hb := by omega
  go_wp2
  refine bodyPost_ret (v := .tuple #[.agg #[.int .u8 v, .int .u8 v, .int .u8 v, .int .u8 255], .int .i64 0, .int .i64 0]) (by simp only [results, Tryz.results63]; go_simp) rfl ⟨rfl, ?_⟩
  have h1 := HHB.out
  repeat' first | with_reducible exact HG1.out | with_reducible refine gb_own ?_ (by omega) (gb_set _ _ _ _) | with_reducible refine gb_trans ?_ (gb_drew _ _) | with_reducible refine gb_trans ?_ (World.grownBy_alloc _ _ _)

set_option maxRecDepth 100000 in
set_option maxHeartbeats 2000000 in
theorem rPixel_grey11 (n0 mi n3 n4 n5 n6 n7 n8 n9 : Int) (lf tp : Bool) (s : ByteArray) (o sz : Nat) (lv : Value) (v : Nat) (hn : o + sz ≤ s.size) (h8 : (n8 != 8) = false) (hx : o < s.size) (hv : (s[o]'hx).toNat = v) (W : World) (hm : s.size ≤ 9223372036854775807) (ho : o ≤ s.size) (hsz : sz ≤ 4) (hm4 : s.size ≤ 4611686018427387904)
    (KS0 : ∀ u, Calls Tryz.prog 62 #[.agg #[.int .i64 n0, .int .i64 mi, .int .i64 11, .int .i64 n3, .int .i64 n4, .int .i64 n5, .int .i64 n6, .int .i64 n7, .int .i64 n8, .int .i64 n9, .bool lf, .bool tp, .int .i64 0, .int .i64 0]] u fun e w' => e = .returned (.int .i64 sz) ∧ u.grownBy w' none) :
    Calls Tryz.prog 63 #[.string s, .int .i64 o, .agg #[.int .i64 n0, .int .i64 mi, .int .i64 11, .int .i64 n3, .int .i64 n4, .int .i64 n5, .int .i64 n6, .int .i64 n7, .int .i64 n8, .int .i64 n9, .bool lf, .bool tp, .int .i64 0, .int .i64 0], lv] W fun e w' => e = .returned (.tuple #[.agg #[.int .u8 v, .int .u8 v, .int .u8 v, .int .u8 255], .int .i64 0, .int .i64 0]) ∧ W.grownBy w' none := by
  have KS := Lib.hid KS0
  have hw : IntKind.i64.wrap ((o : Int) + sz) = (o : Int) + sz := IntWalk.i64_in _ (by omega)
  have hn1 : ¬ (s.size : Int) < (o : Int) + sz := by omega
  have g0 : ((s[o]'hx).toNat : Int) = v := by rw [hv]
  have hv255 : v < 256 := by rw [← hv]; exact UInt8.toNat_lt _
  have i0 : (o : Int) < (s.size : Int) := by omega
  have v1 : IntKind.i64.wrap (v : Int) = v := IntWalk.i64_in _ (by omega)
  clear KS0 hv
  go_enter Tryz.func63, Tryz.ntmps63
  go_wp2_with fail
  have hH : ((W.alloc (.cells #[.int .i64 n0, .int .i64 mi, .int .i64 11, .int .i64 n3, .int .i64 n4, .int .i64 n5, .int .i64 n6, .int .i64 n7, .int .i64 n8, .int .i64 n9, .bool lf, .bool tp, .int .i64 0, .int .i64 0] 57)).alloc (.cells #[.int .u8 0, .int .u8 0, .int .u8 0, .int .u8 0] 135)).heap[W.heap.size]? = some (.cells #[.int .i64 n0, .int .i64 mi, .int .i64 11, .int .i64 n3, .int .i64 n4, .int .i64 n5, .int .i64 n6, .int .i64 n7, .int .i64 n8, .int .i64 n9, .bool lf, .bool tp, .int .i64 0, .int .i64 0] 57 (0, 0)) := blk_al blk_at _
  have hR : ((W.alloc (.cells #[.int .i64 n0, .int .i64 mi, .int .i64 11, .int .i64 n3, .int .i64 n4, .int .i64 n5, .int .i64 n6, .int .i64 n7, .int .i64 n8, .int .i64 n9, .bool lf, .bool tp, .int .i64 0, .int .i64 0] 57)).alloc (.cells #[.int .u8 0, .int .u8 0, .int .u8 0, .int .u8 0] 135)).heap[W.heap.size + 1]? = some (.cells #[.int .u8 0, .int .u8 0, .int .u8 0, .int .u8 0] 135 (0, 0)) := by rw [← size_alloc W (.cells #[.int .i64 n0, .int .i64 mi, .int .i64 11, .int .i64 n3, .int .i64 n4, .int .i64 n5, .int .i64 n6, .int .i64 n7, .int .i64 n8, .int .i64 n9, .bool lf, .bool tp, .int .i64 0, .int .i64 0] 57)]; exact blk_at
  have hG : W.grownBy ((W.alloc (.cells #[.int .i64 n0, .int .i64 mi, .int .i64 11, .int .i64 n3, .int .i64 n4, .int .i64 n5, .int .i64 n6, .int .i64 n7, .int .i64 n8, .int .i64 n9, .bool lf, .bool tp, .int .i64 0, .int .i64 0] 57)).alloc (.cells #[.int .u8 0, .int .u8 0, .int .u8 0, .int .u8 0] 135)) none := gb_trans (World.grownBy_alloc _ _ _) (World.grownBy_alloc _ _ _)
  obtain ⟨hb, hhb⟩ : ∃ r, W.heap.size = r := ⟨_, rfl⟩
  rw [hhb] at hH hR ⊢
  have HHB := Lib.hid hhb
  generalize (W.alloc (.cells #[.int .i64 n0, .int .i64 mi, .int .i64 11, .int .i64 n3, .int .i64 n4, .int .i64 n5, .int .i64 n6, .int .i64 n7, .int .i64 n8, .int .i64 n9, .bool lf, .bool tp, .int .i64 0, .int .i64 0] 57)).alloc (.cells #[.int .u8 0, .int .u8 0, .int .u8 0, .int .u8 0] 135) = w0 at hH hR hG ⊢
  have HH := Lib.hid hH
  have HR := Lib.hid hR
  have HG := Lib.hid hG
  have hl0 := blk_lt hH
  have hl1 := blk_lt hR
  clear hH hR hG hhb
  have h0 : w0.cell? ⟨hb, 0, none⟩ = some (.int .i64 n0) := blk_cell HH.out 0
  have h1 : w0.cell? ⟨hb, 1, none⟩ = some (.int .i64 mi) := blk_cell HH.out 1
  have h2 : w0.cell? ⟨hb, 2, none⟩ = some (.int .i64 11) := blk_cell HH.out 2
  have h3 : w0.cell? ⟨hb, 3, none⟩ = some (.int .i64 n3) := blk_cell HH.out 3
  have h4 : w0.cell? ⟨hb, 4, none⟩ = some (.int .i64 n4) := blk_cell HH.out 4
  have h5 : w0.cell? ⟨hb, 5, none⟩ = some (.int .i64 n5) := blk_cell HH.out 5
  have h6 : w0.cell? ⟨hb, 6, none⟩ = some (.int .i64 n6) := blk_cell HH.out 6
  have h7 : w0.cell? ⟨hb, 7, none⟩ = some (.int .i64 n7) := blk_cell HH.out 7
  have h8 : w0.cell? ⟨hb, 8, none⟩ = some (.int .i64 n8) := blk_cell HH.out 8
  have h9 : w0.cell? ⟨hb, 9, none⟩ = some (.int .i64 n9) := blk_cell HH.out 9
  have h10 : w0.cell? ⟨hb, 10, none⟩ = some (.bool lf) := blk_cell HH.out 10
  have h11 : w0.cell? ⟨hb, 11, none⟩ = some (.bool tp) := blk_cell HH.out 11
  have h12 : w0.cell? ⟨hb, 12, none⟩ = some (.int .i64 0) := blk_cell HH.out 12
  have h13 : w0.cell? ⟨hb, 13, none⟩ = some (.int .i64 0) := blk_cell HH.out 13
  refine (KS.out _).mono ?_
  rintro e w1 ⟨rfl, g1⟩
  have hH1 := old0 g1 HH.out (blk_lt HH.out) (by simp)
  have hR1 := old0 g1 HR.out (blk_lt HR.out) (by simp)
  have HG1 := Lib.hid (gb_trans HG.out g1)
  have HGX := Lib.hid g1
  clear g1 h0 h1 h2 h3 h4 h5 h6 h7 h8 h9 h10 h11 h12 h13 hl0 hl1
  have h0 : w1.cell? ⟨hb, 0, none⟩ = some (.int .i64 n0) := blk_cell hH1 0
  have h1 : w1.cell? ⟨hb, 1, none⟩ = some (.int .i64 mi) := blk_cell hH1 1
  have h2 : w1.cell? ⟨hb, 2, none⟩ = some (.int .i64 11) := blk_cell hH1 2
  have h3 : w1.cell? ⟨hb, 3, none⟩ = some (.int .i64 n3) := blk_cell hH1 3
  have h4 : w1.cell? ⟨hb, 4, none⟩ = some (.int .i64 n4) := blk_cell hH1 4
  have h5 : w1.cell? ⟨hb, 5, none⟩ = some (.int .i64 n5) := blk_cell hH1 5
  have h6 : w1.cell? ⟨hb, 6, none⟩ = some (.int .i64 n6) := blk_cell hH1 6
  have h7 : w1.cell? ⟨hb, 7, none⟩ = some (.int .i64 n7) := blk_cell hH1 7
  have h8 : w1.cell? ⟨hb, 8, none⟩ = some (.int .i64 n8) := blk_cell hH1 8
  have h9 : w1.cell? ⟨hb, 9, none⟩ = some (.int .i64 n9) := blk_cell hH1 9
  have h10 : w1.cell? ⟨hb, 10, none⟩ = some (.bool lf) := blk_cell hH1 10
  have h11 : w1.cell? ⟨hb, 11, none⟩ = some (.bool tp) := blk_cell hH1 11
  have h12 : w1.cell? ⟨hb, 12, none⟩ = some (.int .i64 0) := blk_cell hH1 12
  have h13 : w1.cell? ⟨hb, 13, none⟩ = some (.int .i64 0) := blk_cell hH1 13
  have r0 : w1.cell? ⟨hb + 1, 0, none⟩ = some (.int .u8 0) := blk_cell hR1 0
  have rf0 := blk_free hR1 0
  have r1 : w1.cell? ⟨hb + 1, 1, none⟩ = some (.int .u8 0) := blk_cell hR1 1
  have rf1 := blk_free hR1 1
  have r2 : w1.cell? ⟨hb + 1, 2, none⟩ = some (.int .u8 0) := blk_cell hR1 2
  have rf2 := blk_free hR1 2
  have r3 : w1.cell? ⟨hb + 1, 3, none⟩ = some (.int .u8 0) := blk_cell hR1 3
  have rf3 := blk_free hR1 3
  have hl0 := blk_lt hH1
  have hl1 := blk_lt hR1
  clear HH HR HG
  clear hH1 hR1 HGX
  go_wp2_with fail
  go_region
  have n1 : hb ≠ hb + 1 := by omega
  have n2 : hb + 1 ≠ hb := by omega
  go_wp2
  refine bodyPost_ret (v := .tuple #[.agg #[.int .u8 v, .int .u8 v, .int .u8 v, .int .u8 255], .int .i64 0, .int .i64 0]) (by simp only [results, Tryz.results63]; go_simp) rfl ⟨rfl, ?_⟩
  have h1 := HHB.out
  repeat' first | with_reducible exact HG1.out | with_reducible refine gb_own ?_ (by omega) (gb_set _ _ _ _) | with_reducible refine gb_trans ?_ (gb_drew _ _) | with_reducible refine gb_trans ?_ (World.grownBy_alloc _ _ _)

end Go.Proofs.YtnieeckdldpebaaGreat.Tp
