/- The document's Read of a good head, without a map, of type 11 (written by tga6c.py). -/
import Derived.Test.YtgkeopgccocmkaaTga6
namespace Go.Proofs.Ytgkeopgccocmkaa.Tg
open Go.ChangeShapes Go.WideShapes Go.ChangeAt Go.RowKit
open Go.Proofs.Ytgkeopgccocmkaa.Le Go.Proofs.Ytgkeopgccocmkaa.Sr
set_option linter.unusedVariables false

set_option maxRecDepth 100000 in
set_option maxHeartbeats 16000000 in
theorem read_nomp_12_11_8_0 (s : ByteArray) (RV : Array Value) (x0 x7 x17 A B X Y : Nat) (lf tp : Bool) (W : World) (h18 : 18 ≤ s.size) (hm : s.size ≤ 9223372036854775807) (C : Ck s 12) (hRV : rV s 12 = RV)
    (e0 : bn s 0 = x0) (e1 : bn s 1 = 0) (e2 : bn s 2 = 11) (e7 : bn s 7 = x7) (e16 : bn s 16 = 8) (e17 : bn s 17 = x17) (eA : wd s 3 = A) (eB : wd s 5 = B) (eX : wd s 12 = X) (eY : wd s 14 = Y) (eal : x17 % 16 = 0) (elf : lft s = lf) (etp : tpp s = tp) :
    Calls Try.prog 7 #[.string s] W fun e w' => e = .returned (.agg RV) ∧ W.grownBy w' none := by
  have bA := wd_lt s 3
  have bB := wd_lt s 5
  have bX := wd_lt s 12
  have bY := wd_lt s 14
  have b0 := bn_lt s 0
  have b2 := bn_lt s 2
  have b7 := bn_lt s 7
  have b16 := bn_lt s 16
  have b17 := bn_lt s 17
  rw [eA] at bA
  rw [eB] at bB
  rw [eX] at bX
  rw [eY] at bY
  rw [e0] at b0
  rw [e2] at b2
  rw [e7] at b7
  rw [e16] at b16
  rw [e17] at b17
  have g0 : ((s[0]'(by omega)).toNat : Int) = x0 := bn_cell s 0 (by omega) e0
  have g1 : ((s[1]'(by omega)).toNat : Int) = 0 := bn_cell s 1 (by omega) e1
  have g2 : ((s[2]'(by omega)).toNat : Int) = 11 := bn_cell s 2 (by omega) e2
  have g7 : ((s[7]'(by omega)).toNat : Int) = x7 := bn_cell s 7 (by omega) e7
  have g16 : ((s[16]'(by omega)).toNat : Int) = 8 := bn_cell s 16 (by omega) e16
  have g17 : ((s[17]'(by omega)).toNat : Int) = x17 := bn_cell s 17 (by omega) e17
  have i0 : 0 < s.size := by omega
  have i1 : (1 : Int) < (s.size : Int) := by omega
  have i2 : (2 : Int) < (s.size : Int) := by omega
  have i7 : (7 : Int) < (s.size : Int) := by omega
  have i16 : (16 : Int) < (s.size : Int) := by omega
  have i17 : (17 : Int) < (s.size : Int) := by omega
  have i18 : ¬ (s.size : Int) < 18 := by omega
  have v0 : IntKind.i64.wrap (x0 : Int) = x0 := by rw [IntKind.wrap_i64]; omega
  have vw : IntKind.i64.wrap 0 = 0 := by rw [IntKind.wrap_i64]; decide
  have v2 : IntKind.i64.wrap (11 : Int) = 11 := by rw [IntKind.wrap_i64]; omega
  have v7 : IntKind.i64.wrap (x7 : Int) = x7 := by rw [IntKind.wrap_i64]; omega
  have v16 : IntKind.i64.wrap (8 : Int) = 8 := by rw [IntKind.wrap_i64]; omega
  have v17 : IntKind.i64.wrap (x17 : Int) = x17 := by rw [IntKind.wrap_i64]; omega
  have m1 : (x17 : Int) % 16 = 0 := by omega
  have m2 : (x17 : Int).tmod 16 = 0 := by rw [Int.tmod_eq_emod_of_nonneg (by omega)]; exact m1
  obtain ⟨q16, hq16⟩ : ∃ q, x17 / 16 = q := ⟨_, rfl⟩
  obtain ⟨q32, hq32⟩ : ∃ q, x17 / 32 = q := ⟨_, rfl⟩
  obtain ⟨p16, hp16⟩ : ∃ q, q16 % 2 = q := ⟨_, rfl⟩
  obtain ⟨p32, hp32⟩ : ∃ q, q32 % 2 = q := ⟨_, rfl⟩
  have m3 : (x17 : Int) / 16 = q16 := by omega
  have m4 : (x17 : Int).tdiv 16 = q16 := by rw [Int.tdiv_eq_ediv_of_nonneg (by omega)]; exact m3
  have m5 : (x17 : Int) / 32 = q32 := by omega
  have m6 : (x17 : Int).tdiv 32 = q32 := by rw [Int.tdiv_eq_ediv_of_nonneg (by omega)]; exact m5
  have m7 : (q16 : Int) % 2 = p16 := by omega
  have m8 : (q16 : Int).tmod 2 = p16 := by rw [Int.tmod_eq_emod_of_nonneg (by omega)]; exact m7
  have m9 : (q32 : Int) % 2 = p32 := by omega
  have m10 : (q32 : Int).tmod 2 = p32 := by rw [Int.tmod_eq_emod_of_nonneg (by omega)]; exact m9
  have zl : ((p16 : Int) == 1) = lf := by
    rw [← elf]
    unfold lft
    rw [e17, hq16, hp16, Bool.eq_iff_iff]
    simp
    omega
  have zt : ((p32 : Int) == 1) = tp := by
    rw [← etp]
    unfold tpp
    rw [e17, hq32, hp32, Bool.eq_iff_iff]
    simp
    omega
  have KLA := fun u => le_is s 3 (by omega) u
  have KLB := fun u => le_is s 5 (by omega) u
  have KLX := fun u => le_is s 12 (by omega) u
  have KLY := fun u => le_is s 14 (by omega) u
  simp only [eA] at KLA
  simp only [eB] at KLB
  simp only [eX] at KLX
  simp only [eY] at KLY
  have KLA := Lib.hid KLA
  have KLB := Lib.hid KLB
  have KLX := Lib.hid KLX
  have KLY := Lib.hid KLY
  have sA : ∀ w, (Instr.slice 9 (.string s) (some (.int .i64 3)) (some (.int .i64 5)) none).run Try.prog w = .ok (.string (s.extract 3 (3 + 2))) w := fun w => cut_at s 3 2 (by omega) w
  have sB : ∀ w, (Instr.slice 9 (.string s) (some (.int .i64 5)) (some (.int .i64 7)) none).run Try.prog w = .ok (.string (s.extract 5 (5 + 2))) w := fun w => cut_at s 5 2 (by omega) w
  have sX : ∀ w, (Instr.slice 9 (.string s) (some (.int .i64 12)) (some (.int .i64 14)) none).run Try.prog w = .ok (.string (s.extract 12 (12 + 2))) w := fun w => cut_at s 12 2 (by omega) w
  have sY : ∀ w, (Instr.slice 9 (.string s) (some (.int .i64 14)) (some (.int .i64 16)) none).run Try.prog w = .ok (.string (s.extract 14 (14 + 2))) w := fun w => cut_at s 14 2 (by omega) w
  have hmp : mpB s = false := by unfold mpB; rw [e1]; rfl
  have HGOOD : rV s 12 = #[.int .i64 x0, .int .i64 0, .int .i64 11, .int .i64 0, .int .i64 0, .int .i64 0, .int .i64 X, .int .i64 Y, .int .i64 8, .int .i64 0, .bool lf, .bool tp, .int .i64 0, .int .i64 0] := by
    unfold rV rGood fst cnt ent alp
    rw [if_pos rfl, hmp, e0, e2, eX, eY, e16, e17, eal, elf, etp]
    simp []
  have HGOOD := Lib.hid HGOOD
  have HMP := Lib.hid hmp
  have HX1 := Lib.hid e1
  have HX2 := Lib.hid e2
  have HX7 := Lib.hid e7
  have HX16 := Lib.hid e16
  have HX17 := Lib.hid e17
  have HB := Lib.hid eB
  have HX := Lib.hid eX
  have HY := Lib.hid eY
  have HAL := Lib.hid eal
  have HC := Lib.hid C
  have ERV := Lib.hid hRV
  clear e0 e1 e2 e7 e16 e17 eA eB eX eY eal elf etp hmp C hRV hq16 hq32 hp16 hp32
  go_enter Try.func7, Try.ntmps7
  go_upto_region 1 with fail
  have hR : (W.alloc (.cells #[.int .i64 0, .int .i64 0, .int .i64 0, .int .i64 0, .int .i64 0, .int .i64 0, .int .i64 0, .int .i64 0, .int .i64 0, .int .i64 0, .bool false, .bool false, .int .i64 0, .int .i64 0] 30)).heap[W.heap.size]? = some (.cells #[.int .i64 0, .int .i64 0, .int .i64 0, .int .i64 0, .int .i64 0, .int .i64 0, .int .i64 0, .int .i64 0, .int .i64 0, .int .i64 0, .bool false, .bool false, .int .i64 0, .int .i64 0] 30 (0, 0)) := blk_at
  have hG := World.grownBy_alloc W (.cells #[.int .i64 0, .int .i64 0, .int .i64 0, .int .i64 0, .int .i64 0, .int .i64 0, .int .i64 0, .int .i64 0, .int .i64 0, .int .i64 0, .bool false, .bool false, .int .i64 0, .int .i64 0] 30) none
  have hZ := size_alloc W (.cells #[.int .i64 0, .int .i64 0, .int .i64 0, .int .i64 0, .int .i64 0, .int .i64 0, .int .i64 0, .int .i64 0, .int .i64 0, .int .i64 0, .bool false, .bool false, .int .i64 0, .int .i64 0] 30)
  generalize W.alloc (.cells #[.int .i64 0, .int .i64 0, .int .i64 0, .int .i64 0, .int .i64 0, .int .i64 0, .int .i64 0, .int .i64 0, .int .i64 0, .int .i64 0, .bool false, .bool false, .int .i64 0, .int .i64 0] 30) = w1 at hR hG hZ ⊢
  obtain ⟨bx, hbx⟩ : ∃ bx, w1.heap.size = bx := ⟨_, rfl⟩
  have HEB := Lib.hid (show bx = W.heap.size + 1 by omega)
  have HNE := Lib.hid (show W.heap.size ≠ bx by omega)
  have HLE := Lib.hid (show W.heap.size ≤ bx by omega)
  have ne1 : W.heap.size ≠ bx := HNE.out
  have ne2 : bx ≠ W.heap.size := fun h => HNE.out h.symm
  have HR := Lib.hid hR
  have HG := Lib.hid hG
  clear hR hG hZ
  have hc1 : ∀ (w : World) (o : Obj), w.drew.alloc o = (w.alloc o).drew := fun _ _ => rfl
  have hc2 : ∀ (w : World) (a : Addr) (v : Value), w.drew.setCell a v = (w.setCell a v).drew := fun w a v => drewN_set w 1 a v
  go_upto_region 10 with fail
  refine wp_region_held_drew (S := fun _ => True) (by kernel_rfl) ?_ (fun hHeld => ?_)
  · first | exact trivial | go_keep
  refine wpAnyH_take (i := 0) (oi := { dst := some 54, op := Go.Op.move (Go.Operand.tmp 0), type := 9, pos := "ref.go:38", after := #[], guard := none }) (v := ?v0_99) rfl (by kernel_rfl) (by kernel_rfl) (by kernel_rfl) (fun _ _ _ h => h) (Or.inl ⟨by rfl, ?hy0_99⟩) (by assumption) ?rest0_99
  case hy0_99 =>
    intro w' hSw
    try dsimp only at hSw
    go_simp
    try with_reducible rfl
  try simp only [Act.put, List.setIfInBounds_toArray, List.set_cons_zero, List.set_cons_succ]
  refine wpAnyH_take (i := 1) (oi := { dst := some 55, op := Go.Op.index 9 (Go.Operand.tmp 54) (Go.Operand.const (Go.Value.int Go.IntKind.i64 0)), type := 5, pos := "ref.go:38", after := #[{ on := 0, ground := Go.Ground.data }], guard := none }) (v := ?v1_100) rfl (by kernel_rfl) (by kernel_rfl) (by kernel_rfl) (fun _ _ _ h => h) (Or.inl ⟨by rfl, ?hy1_100⟩) (by assumption) ?rest1_100
  case hy1_100 =>
    intro w' hSw
    try dsimp only at hSw
    go_simp
    try with_reducible rfl
  try simp only [Act.put, List.setIfInBounds_toArray, List.set_cons_zero, List.set_cons_succ]
  refine wpAnyH_take (i := 2) (oi := { dst := some 56, op := Go.Op.convert 5 3 (Go.Operand.tmp 55), type := 3, pos := "ref.go:38", after := #[{ on := 1, ground := Go.Ground.data }], guard := none }) (v := ?v2_101) rfl (by kernel_rfl) (by kernel_rfl) (by kernel_rfl) (fun _ _ _ h => h) (Or.inl ⟨by rfl, ?hy2_101⟩) (by assumption) ?rest2_101
  case hy2_101 =>
    intro w' hSw
    try dsimp only at hSw
    go_simp
    try with_reducible rfl
  try simp only [Act.put, List.setIfInBounds_toArray, List.set_cons_zero, List.set_cons_succ]
  refine wpAnyH_take (i := 3) (oi := { dst := some 57, op := Go.Op.move (Go.Operand.tmp 0), type := 9, pos := "ref.go:38", after := #[], guard := none }) (v := ?v3_102) rfl (by kernel_rfl) (by kernel_rfl) (by kernel_rfl) (fun _ _ _ h => h) (Or.inl ⟨by rfl, ?hy3_102⟩) (by assumption) ?rest3_102
  case hy3_102 =>
    intro w' hSw
    try dsimp only at hSw
    go_simp
    try with_reducible rfl
  try simp only [Act.put, List.setIfInBounds_toArray, List.set_cons_zero, List.set_cons_succ]
  refine wpAnyH_take (i := 4) (oi := { dst := some 58, op := Go.Op.index 9 (Go.Operand.tmp 57) (Go.Operand.const (Go.Value.int Go.IntKind.i64 1)), type := 5, pos := "ref.go:38", after := #[{ on := 3, ground := Go.Ground.data }], guard := none }) (v := ?v4_103) rfl (by kernel_rfl) (by kernel_rfl) (by kernel_rfl) (fun _ _ _ h => h) (Or.inl ⟨by rfl, ?hy4_103⟩) (by assumption) ?rest4_103
  case hy4_103 =>
    intro w' hSw
    try dsimp only at hSw
    go_simp
    try with_reducible rfl
  try simp only [Act.put, List.setIfInBounds_toArray, List.set_cons_zero, List.set_cons_succ]
  refine wpAnyH_take (i := 5) (oi := { dst := some 59, op := Go.Op.convert 5 3 (Go.Operand.tmp 58), type := 3, pos := "ref.go:38", after := #[{ on := 4, ground := Go.Ground.data }], guard := none }) (v := ?v5_104) rfl (by kernel_rfl) (by kernel_rfl) (by kernel_rfl) (fun _ _ _ h => h) (Or.inl ⟨by rfl, ?hy5_104⟩) (by assumption) ?rest5_104
  case hy5_104 =>
    intro w' hSw
    try dsimp only at hSw
    go_simp
    try with_reducible rfl
  try simp only [Act.put, List.setIfInBounds_toArray, List.set_cons_zero, List.set_cons_succ]
  refine wpAnyH_take (i := 6) (oi := { dst := some 60, op := Go.Op.move (Go.Operand.tmp 3), type := 3, pos := "ref.go:38", after := #[], guard := none }) (v := ?v6_105) rfl (by kernel_rfl) (by kernel_rfl) (by kernel_rfl) (fun _ _ _ h => h) (Or.inl ⟨by rfl, ?hy6_105⟩) (by assumption) ?rest6_105
  case hy6_105 =>
    intro w' hSw
    try dsimp only at hSw
    go_simp
    try with_reducible rfl
  try simp only [Act.put, List.setIfInBounds_toArray, List.set_cons_zero, List.set_cons_succ]
  refine wpAnyH_take (i := 7) (oi := { dst := some 61, op := Go.Op.build 30 #[(0, Go.Operand.tmp 56), (1, Go.Operand.tmp 59), (2, Go.Operand.tmp 60)], type := 30, pos := "ref.go:38", after := #[{ on := 2, ground := Go.Ground.data }, { on := 5, ground := Go.Ground.data }, { on := 6, ground := Go.Ground.data }], guard := none }) (v := ?v7_106) rfl (by kernel_rfl) (by kernel_rfl) (by kernel_rfl) (fun _ _ _ h => h) (Or.inl ⟨by rfl, ?hy7_106⟩) (by assumption) ?rest7_106
  case hy7_106 =>
    intro w' hSw
    try dsimp only at hSw
    go_simp
    try with_reducible rfl
  try simp only [Act.put, List.setIfInBounds_toArray, List.set_cons_zero, List.set_cons_succ]
  refine wpAnyH_ready (rs := [8]) (by kernel_rfl) (by simp) ?_
  refine AllReadyH.cons (o := { dst := some 4, op := Go.Op.alloc 30, type := 0, pos := "ref.go:38", after := #[], guard := none }) rfl (fun K hK => ?_) AllReadyH.nil
  go_simp
  refine hK.out _ _ ?_ (fun hHeld2 => ?_)
  · first | exact trivial | go_keep
  clear hHeld
  have hHeld := hHeld2
  clear hK K hHeld2
  try simp only [Act.put, List.setIfInBounds_toArray, List.set_cons_zero, List.set_cons_succ]
  refine wpAnyH_ready (rs := [9]) (by kernel_rfl) (by simp) ?_
  refine AllReadyH.cons (o := { dst := none, op := Go.Op.store 30 (Go.Operand.tmp 4) (Go.Operand.tmp 61), type := 0, pos := "ref.go:38", after := #[{ on := 8, ground := Go.Ground.data }, { on := 7, ground := Go.Ground.data }, { on := 0, ground := Go.Ground.phase }, { on := 1, ground := Go.Ground.phase }, { on := 2, ground := Go.Ground.phase }, { on := 3, ground := Go.Ground.phase }, { on := 4, ground := Go.Ground.phase }, { on := 5, ground := Go.Ground.phase }, { on := 6, ground := Go.Ground.phase }, { on := 7, ground := Go.Ground.phase }, { on := 8, ground := Go.Ground.phase }], guard := none }) rfl (fun K hK => ?_) AllReadyH.nil
  go_simp
  refine hK.out _ _ ?_ (fun hHeld2 => ?_)
  · first | exact trivial | go_keep
  clear hHeld
  have hHeld := hHeld2
  clear hK K hHeld2
  try simp only [Act.put, List.setIfInBounds_toArray, List.set_cons_zero, List.set_cons_succ]
  refine wpAnyH_done (by kernel_rfl) ?_ _
  refine abs_w (R := RI W bx #[.int .i64 x0, .int .i64 0, .int .i64 11, .int .i64 0, .int .i64 0, .int .i64 0, .int .i64 0, .int .i64 0, .int .i64 0, .int .i64 0, .bool false, .bool false, .int .i64 0, .int .i64 0]) ?_ (fun w2 I => ?_)
  · refine ⟨?_, ?_, HEB.out, ?_⟩
    · exact (blk_al HR.out (.cells #[.int .i64 x0, .int .i64 0, .int .i64 11, .int .i64 0, .int .i64 0, .int .i64 0, .int .i64 0, .int .i64 0, .int .i64 0, .int .i64 0, .bool false, .bool false, .int .i64 0, .int .i64 0] 30))
    · exact at_bx hbx
    · exact gb_trans (gb_trans HG.out (World.grownBy_alloc w1 (.cells #[.int .i64 x0, .int .i64 0, .int .i64 11, .int .i64 0, .int .i64 0, .int .i64 0, .int .i64 0, .int .i64 0, .int .i64 0, .int .i64 0, .bool false, .bool false, .int .i64 0, .int .i64 0] 30) none)) (gb_drew _ _)
  have a0 : w2.cell? ⟨bx, 0, none⟩ = some (.int .i64 x0) := blk_cell I.hd 0
  have a1 : w2.cell? ⟨bx, 1, none⟩ = some (.int .i64 0) := blk_cell I.hd 1
  have a2 : w2.cell? ⟨bx, 2, none⟩ = some (.int .i64 11) := blk_cell I.hd 2
  have a3 : w2.cell? ⟨bx, 3, none⟩ = some (.int .i64 0) := blk_cell I.hd 3
  have a4 : w2.cell? ⟨bx, 4, none⟩ = some (.int .i64 0) := blk_cell I.hd 4
  have a5 : w2.cell? ⟨bx, 5, none⟩ = some (.int .i64 0) := blk_cell I.hd 5
  have a6 : w2.cell? ⟨bx, 6, none⟩ = some (.int .i64 0) := blk_cell I.hd 6
  have a7 : w2.cell? ⟨bx, 7, none⟩ = some (.int .i64 0) := blk_cell I.hd 7
  have a8 : w2.cell? ⟨bx, 8, none⟩ = some (.int .i64 0) := blk_cell I.hd 8
  have a9 : w2.cell? ⟨bx, 9, none⟩ = some (.int .i64 0) := blk_cell I.hd 9
  have a10 : w2.cell? ⟨bx, 10, none⟩ = some (.bool false) := blk_cell I.hd 10
  have a11 : w2.cell? ⟨bx, 11, none⟩ = some (.bool false) := blk_cell I.hd 11
  have a12 : w2.cell? ⟨bx, 12, none⟩ = some (.int .i64 0) := blk_cell I.hd 12
  have a13 : w2.cell? ⟨bx, 13, none⟩ = some (.int .i64 0) := blk_cell I.hd 13
  have fa3 := blk_free I.hd 3
  have fa4 := blk_free I.hd 4
  have fa5 := blk_free I.hd 5
  have fa6 := blk_free I.hd 6
  have fa7 := blk_free I.hd 7
  have HRI := Lib.hid I
  have HRES := Lib.hid I.res
  have HGB := Lib.hid I.gb
  have hlx := blk_lt I.hd
  clear I
  go_upto_region 17 with fail
  refine wp_region_held_drew (S := fun _ => True) (by kernel_rfl) ?_ (fun hHeld => ?_)
  · first | exact trivial | go_keep
  refine wpAnyH_take (i := 0) (oi := { dst := some 86, op := Go.Op.move (Go.Operand.tmp 0), type := 9, pos := "ref.go:48", after := #[], guard := none }) (v := ?v0_107) rfl (by kernel_rfl) (by kernel_rfl) (by kernel_rfl) (fun _ _ _ h => h) (Or.inl ⟨by rfl, ?hy0_107⟩) (by assumption) ?rest0_107
  case hy0_107 =>
    intro w' hSw
    try dsimp only at hSw
    go_simp
    try with_reducible rfl
  try simp only [Act.put, List.setIfInBounds_toArray, List.set_cons_zero, List.set_cons_succ]
  refine wpAnyH_take (i := 1) (oi := { dst := some 87, op := Go.Op.slice 9 (Go.Operand.tmp 86) (some (Go.Operand.const (Go.Value.int Go.IntKind.i64 12))) (some (Go.Operand.const (Go.Value.int Go.IntKind.i64 14))) none, type := 9, pos := "ref.go:48", after := #[{ on := 0, ground := Go.Ground.data }], guard := none }) (v := ?v1_108) rfl (by kernel_rfl) (by kernel_rfl) (by kernel_rfl) (fun _ _ _ h => h) (Or.inl ⟨by rfl, ?hy1_108⟩) (by assumption) ?rest1_108
  case hy1_108 =>
    intro w' hSw
    try dsimp only at hSw
    go_simp
    try with_reducible rfl
  try simp only [Act.put, List.setIfInBounds_toArray, List.set_cons_zero, List.set_cons_succ]
  refine wpAnyH_take (i := 3) (oi := { dst := some 89, op := Go.Op.move (Go.Operand.tmp 0), type := 9, pos := "ref.go:48", after := #[], guard := none }) (v := ?v3_109) rfl (by kernel_rfl) (by kernel_rfl) (by kernel_rfl) (fun _ _ _ h => h) (Or.inl ⟨by rfl, ?hy3_109⟩) (by assumption) ?rest3_109
  case hy3_109 =>
    intro w' hSw
    try dsimp only at hSw
    go_simp
    try with_reducible rfl
  try simp only [Act.put, List.setIfInBounds_toArray, List.set_cons_zero, List.set_cons_succ]
  refine wpAnyH_take (i := 4) (oi := { dst := some 90, op := Go.Op.slice 9 (Go.Operand.tmp 89) (some (Go.Operand.const (Go.Value.int Go.IntKind.i64 14))) (some (Go.Operand.const (Go.Value.int Go.IntKind.i64 16))) none, type := 9, pos := "ref.go:48", after := #[{ on := 3, ground := Go.Ground.data }], guard := none }) (v := ?v4_110) rfl (by kernel_rfl) (by kernel_rfl) (by kernel_rfl) (fun _ _ _ h => h) (Or.inl ⟨by rfl, ?hy4_110⟩) (by assumption) ?rest4_110
  case hy4_110 =>
    intro w' hSw
    try dsimp only at hSw
    go_simp
    try with_reducible rfl
  try simp only [Act.put, List.setIfInBounds_toArray, List.set_cons_zero, List.set_cons_succ]
  refine wpAnyH_ready (rs := [2]) (by kernel_rfl) (by simp) ?_
  refine AllReadyH.cons (o := { dst := some 88, op := Go.Op.call { callee := Go.Callee.value (Go.Operand.func 16), args := #[Go.Operand.tmp 87], argTypes := #[9] }, type := 3, pos := "ref.go:48", after := #[{ on := 1, ground := Go.Ground.data }], guard := none }) rfl (fun K hK => ?_) AllReadyH.nil
  go_simp
  refine (KLX.out _).mono ?_
  rintro e w' ⟨rfl, rfl⟩
  try go_wp2_with fail
  refine hK.out _ _ ?_ (fun hHeld2 => ?_)
  · first | exact trivial | go_keep
  clear hHeld
  have hHeld := hHeld2
  clear hK K hHeld2
  try simp only [Act.put, List.setIfInBounds_toArray, List.set_cons_zero, List.set_cons_succ]
  refine wpAnyH_take (i := 6) (oi := { dst := some 92, op := Go.Op.fieldAddr 30 (Go.Operand.tmp 4) 6, type := 0, pos := "ref.go:48", after := #[{ on := 0, ground := Go.Ground.phase }, { on := 1, ground := Go.Ground.phase }, { on := 2, ground := Go.Ground.phase }, { on := 3, ground := Go.Ground.textOnly Go.Departure.lateStores }, { on := 4, ground := Go.Ground.textOnly Go.Departure.lateStoresUnsure }, { on := 5, ground := Go.Ground.textOnly Go.Departure.lateStoresUnsure }], guard := none }) (v := ?v6_111) rfl (by kernel_rfl) (by kernel_rfl) (by kernel_rfl) (fun _ _ _ h => h) (Or.inl ⟨by rfl, ?hy6_111⟩) (by assumption) ?rest6_111
  case hy6_111 =>
    intro w' hSw
    try dsimp only at hSw
    go_simp
    try with_reducible rfl
  try simp only [Act.put, List.setIfInBounds_toArray, List.set_cons_zero, List.set_cons_succ]
  refine wpAnyH_ready (rs := [5]) (by kernel_rfl) (by simp) ?_
  refine AllReadyH.cons (o := { dst := some 91, op := Go.Op.call { callee := Go.Callee.value (Go.Operand.func 16), args := #[Go.Operand.tmp 90], argTypes := #[9] }, type := 3, pos := "ref.go:48", after := #[{ on := 4, ground := Go.Ground.data }, { on := 2, ground := Go.Ground.chain }], guard := none }) rfl (fun K hK => ?_) AllReadyH.nil
  go_simp
  refine (KLY.out _).mono ?_
  rintro e w' ⟨rfl, rfl⟩
  try go_wp2_with fail
  refine hK.out _ _ ?_ (fun hHeld2 => ?_)
  · first | exact trivial | go_keep
  clear hHeld
  have hHeld := hHeld2
  clear hK K hHeld2
  try simp only [Act.put, List.setIfInBounds_toArray, List.set_cons_zero, List.set_cons_succ]
  refine wpAnyH_ready (rs := [7]) (by kernel_rfl) (by simp) ?_
  refine AllReadyH.cons (o := { dst := none, op := Go.Op.store 3 (Go.Operand.tmp 92) (Go.Operand.tmp 88), type := 0, pos := "ref.go:48", after := #[{ on := 6, ground := Go.Ground.data }, { on := 2, ground := Go.Ground.data }, { on := 5, ground := Go.Ground.chain }, { on := 0, ground := Go.Ground.phase }, { on := 1, ground := Go.Ground.phase }, { on := 2, ground := Go.Ground.phase }, { on := 3, ground := Go.Ground.textOnly Go.Departure.lateStores }, { on := 4, ground := Go.Ground.textOnly Go.Departure.lateStoresUnsure }, { on := 5, ground := Go.Ground.textOnly Go.Departure.lateStoresUnsure }], guard := none }) rfl (fun K hK => ?_) AllReadyH.nil
  go_simp
  refine hK.out _ _ ?_ (fun hHeld2 => ?_)
  · first | exact trivial | go_keep
  clear hHeld
  have hHeld := hHeld2
  clear hK K hHeld2
  try simp only [Act.put, List.setIfInBounds_toArray, List.set_cons_zero, List.set_cons_succ]
  refine wpAnyH_take (i := 8) (oi := { dst := some 93, op := Go.Op.fieldAddr 30 (Go.Operand.tmp 4) 7, type := 0, pos := "ref.go:48", after := #[{ on := 0, ground := Go.Ground.phase }, { on := 1, ground := Go.Ground.phase }, { on := 2, ground := Go.Ground.phase }, { on := 3, ground := Go.Ground.phase }, { on := 4, ground := Go.Ground.phase }, { on := 5, ground := Go.Ground.phase }, { on := 6, ground := Go.Ground.phase }, { on := 7, ground := Go.Ground.phase }], guard := none }) (v := ?v8_112) rfl (by kernel_rfl) (by kernel_rfl) (by kernel_rfl) (fun _ _ _ h => h) (Or.inl ⟨by rfl, ?hy8_112⟩) (by assumption) ?rest8_112
  case hy8_112 =>
    intro w' hSw
    try dsimp only at hSw
    go_simp
    try with_reducible rfl
  try simp only [Act.put, List.setIfInBounds_toArray, List.set_cons_zero, List.set_cons_succ]
  refine wpAnyH_ready (rs := [9]) (by kernel_rfl) (by simp) ?_
  refine AllReadyH.cons (o := { dst := none, op := Go.Op.store 3 (Go.Operand.tmp 93) (Go.Operand.tmp 91), type := 0, pos := "ref.go:48", after := #[{ on := 8, ground := Go.Ground.data }, { on := 5, ground := Go.Ground.data }, { on := 7, ground := Go.Ground.chain }, { on := 0, ground := Go.Ground.phase }, { on := 1, ground := Go.Ground.phase }, { on := 2, ground := Go.Ground.phase }, { on := 3, ground := Go.Ground.phase }, { on := 4, ground := Go.Ground.phase }, { on := 5, ground := Go.Ground.phase }, { on := 6, ground := Go.Ground.phase }, { on := 7, ground := Go.Ground.phase }], guard := none }) rfl (fun K hK => ?_) AllReadyH.nil
  go_simp
  refine hK.out _ _ ?_ (fun hHeld2 => ?_)
  · first | exact trivial | go_keep
  clear hHeld
  have hHeld := hHeld2
  clear hK K hHeld2
  try simp only [Act.put, List.setIfInBounds_toArray, List.set_cons_zero, List.set_cons_succ]
  refine wpAnyH_done (by kernel_rfl) ?_ _
  refine abs_w (R := RI W bx #[.int .i64 x0, .int .i64 0, .int .i64 11, .int .i64 0, .int .i64 0, .int .i64 0, .int .i64 X, .int .i64 Y, .int .i64 0, .int .i64 0, .bool false, .bool false, .int .i64 0, .int .i64 0]) ?_ (fun w4 I => ?_)
  · refine ⟨?_, ?_, HEB.out, ?_⟩
    · exact blk_other (blk_other HRES.out HNE.out) HNE.out
    · exact blk_set (blk_set HRI.out.hd 6 (.int .i64 X)) 7 (.int .i64 Y)
    · exact gb_trans (gb_own (gb_own HGB.out HLE.out (gb_set _ _ _ _)) HLE.out (gb_set _ _ _ _)) (gb_drew _ _)
  clear a0 a1 a2 a3 a4 a5 a6 a7 a8 a9 a10 a11 a12 a13
  clear fa3 fa4 fa5 fa6 fa7 HRI HRES HGB hlx
  have a0 : w4.cell? ⟨bx, 0, none⟩ = some (.int .i64 x0) := blk_cell I.hd 0
  have a1 : w4.cell? ⟨bx, 1, none⟩ = some (.int .i64 0) := blk_cell I.hd 1
  have a2 : w4.cell? ⟨bx, 2, none⟩ = some (.int .i64 11) := blk_cell I.hd 2
  have a3 : w4.cell? ⟨bx, 3, none⟩ = some (.int .i64 0) := blk_cell I.hd 3
  have a4 : w4.cell? ⟨bx, 4, none⟩ = some (.int .i64 0) := blk_cell I.hd 4
  have a5 : w4.cell? ⟨bx, 5, none⟩ = some (.int .i64 0) := blk_cell I.hd 5
  have a6 : w4.cell? ⟨bx, 6, none⟩ = some (.int .i64 X) := blk_cell I.hd 6
  have a7 : w4.cell? ⟨bx, 7, none⟩ = some (.int .i64 Y) := blk_cell I.hd 7
  have a8 : w4.cell? ⟨bx, 8, none⟩ = some (.int .i64 0) := blk_cell I.hd 8
  have a9 : w4.cell? ⟨bx, 9, none⟩ = some (.int .i64 0) := blk_cell I.hd 9
  have a10 : w4.cell? ⟨bx, 10, none⟩ = some (.bool false) := blk_cell I.hd 10
  have a11 : w4.cell? ⟨bx, 11, none⟩ = some (.bool false) := blk_cell I.hd 11
  have a12 : w4.cell? ⟨bx, 12, none⟩ = some (.int .i64 0) := blk_cell I.hd 12
  have a13 : w4.cell? ⟨bx, 13, none⟩ = some (.int .i64 0) := blk_cell I.hd 13
  have fa8 := blk_free I.hd 8
  have HRI := Lib.hid I
  have HRES := Lib.hid I.res
  have HGB := Lib.hid I.gb
  have hlx := blk_lt I.hd
  clear I
  go_upto_region 18 with fail
  have hck : ck s 5 = false := HC.out.no 5 (by omega)
  have d5 : ((X : Int) == 0) = false := by have h := hck; simp only [ck, HX.out] at h; rw [beq_eq_false_iff_ne]; simp at h; omega
  clear hck
  go_upto_region 20 with fail
  have hck : ck s 6 = false := HC.out.no 6 (by omega)
  have d6 : ¬ (16384 : Int) < X := by have h := hck; simp only [ck, HX.out] at h; simp at h; omega
  clear hck
  go_upto_region 22 with fail
  have hck : ck s 7 = false := HC.out.no 7 (by omega)
  have d7 : ((Y : Int) == 0) = false := by have h := hck; simp only [ck, HY.out] at h; rw [beq_eq_false_iff_ne]; simp at h; omega
  clear hck
  go_upto_region 24 with fail
  have hck : ck s 8 = false := HC.out.no 8 (by omega)
  have d8 : ¬ (16384 : Int) < Y := by have h := hck; simp only [ck, HY.out] at h; simp at h; omega
  clear hck
  go_upto_region 27 with fail
  clear d5 d6 d7 d8
  refine abs_w (R := RI W bx #[.int .i64 x0, .int .i64 0, .int .i64 11, .int .i64 0, .int .i64 0, .int .i64 0, .int .i64 X, .int .i64 Y, .int .i64 8, .int .i64 0, .bool false, .bool false, .int .i64 0, .int .i64 0]) ?_ (fun w5 I => ?_)
  · refine ⟨?_, ?_, HEB.out, ?_⟩
    · exact blk_other HRES.out HNE.out
    · exact blk_set HRI.out.hd 8 (.int .i64 8)
    · exact gb_own HGB.out HLE.out (gb_set _ _ _ _)
  clear a0 a1 a2 a3 a4 a5 a6 a7 a8 a9 a10 a11 a12 a13
  clear fa8 HRI HRES HGB hlx
  have a0 : w5.cell? ⟨bx, 0, none⟩ = some (.int .i64 x0) := blk_cell I.hd 0
  have a1 : w5.cell? ⟨bx, 1, none⟩ = some (.int .i64 0) := blk_cell I.hd 1
  have a2 : w5.cell? ⟨bx, 2, none⟩ = some (.int .i64 11) := blk_cell I.hd 2
  have a3 : w5.cell? ⟨bx, 3, none⟩ = some (.int .i64 0) := blk_cell I.hd 3
  have a4 : w5.cell? ⟨bx, 4, none⟩ = some (.int .i64 0) := blk_cell I.hd 4
  have a5 : w5.cell? ⟨bx, 5, none⟩ = some (.int .i64 0) := blk_cell I.hd 5
  have a6 : w5.cell? ⟨bx, 6, none⟩ = some (.int .i64 X) := blk_cell I.hd 6
  have a7 : w5.cell? ⟨bx, 7, none⟩ = some (.int .i64 Y) := blk_cell I.hd 7
  have a8 : w5.cell? ⟨bx, 8, none⟩ = some (.int .i64 8) := blk_cell I.hd 8
  have a9 : w5.cell? ⟨bx, 9, none⟩ = some (.int .i64 0) := blk_cell I.hd 9
  have a10 : w5.cell? ⟨bx, 10, none⟩ = some (.bool false) := blk_cell I.hd 10
  have a11 : w5.cell? ⟨bx, 11, none⟩ = some (.bool false) := blk_cell I.hd 11
  have a12 : w5.cell? ⟨bx, 12, none⟩ = some (.int .i64 0) := blk_cell I.hd 12
  have a13 : w5.cell? ⟨bx, 13, none⟩ = some (.int .i64 0) := blk_cell I.hd 13
  have fa9 := blk_free I.hd 9
  have HRI := Lib.hid I
  have HRES := Lib.hid I.res
  have HGB := Lib.hid I.gb
  have hlx := blk_lt I.hd
  clear I
  go_upto_region 30 with fail
  have hck : ck s 10 = false := HC.out.no 10 (by omega)
  have d10 : ¬ (64 : Int) ≤ x17 := by have h := hck; simp only [ck, HX17.out] at h; simp at h; omega
  clear hck
  go_upto_region 33 with fail
  clear d10
  refine abs_w (R := RI W bx #[.int .i64 x0, .int .i64 0, .int .i64 11, .int .i64 0, .int .i64 0, .int .i64 0, .int .i64 X, .int .i64 Y, .int .i64 8, .int .i64 0, .bool false, .bool false, .int .i64 0, .int .i64 0]) ?_ (fun w6 I => ?_)
  · refine ⟨?_, ?_, HEB.out, ?_⟩
    · exact blk_other HRES.out HNE.out
    · exact blk_set HRI.out.hd 9 (.int .i64 0)
    · exact gb_own HGB.out HLE.out (gb_set _ _ _ _)
  clear a0 a1 a2 a3 a4 a5 a6 a7 a8 a9 a10 a11 a12 a13
  clear fa9 HRI HRES HGB hlx
  have a0 : w6.cell? ⟨bx, 0, none⟩ = some (.int .i64 x0) := blk_cell I.hd 0
  have a1 : w6.cell? ⟨bx, 1, none⟩ = some (.int .i64 0) := blk_cell I.hd 1
  have a2 : w6.cell? ⟨bx, 2, none⟩ = some (.int .i64 11) := blk_cell I.hd 2
  have a3 : w6.cell? ⟨bx, 3, none⟩ = some (.int .i64 0) := blk_cell I.hd 3
  have a4 : w6.cell? ⟨bx, 4, none⟩ = some (.int .i64 0) := blk_cell I.hd 4
  have a5 : w6.cell? ⟨bx, 5, none⟩ = some (.int .i64 0) := blk_cell I.hd 5
  have a6 : w6.cell? ⟨bx, 6, none⟩ = some (.int .i64 X) := blk_cell I.hd 6
  have a7 : w6.cell? ⟨bx, 7, none⟩ = some (.int .i64 Y) := blk_cell I.hd 7
  have a8 : w6.cell? ⟨bx, 8, none⟩ = some (.int .i64 8) := blk_cell I.hd 8
  have a9 : w6.cell? ⟨bx, 9, none⟩ = some (.int .i64 0) := blk_cell I.hd 9
  have a10 : w6.cell? ⟨bx, 10, none⟩ = some (.bool false) := blk_cell I.hd 10
  have a11 : w6.cell? ⟨bx, 11, none⟩ = some (.bool false) := blk_cell I.hd 11
  have a12 : w6.cell? ⟨bx, 12, none⟩ = some (.int .i64 0) := blk_cell I.hd 12
  have a13 : w6.cell? ⟨bx, 13, none⟩ = some (.int .i64 0) := blk_cell I.hd 13
  have fa10 := blk_free I.hd 10
  have fa11 := blk_free I.hd 11
  have HRI := Lib.hid I
  have HRES := Lib.hid I.res
  have HGB := Lib.hid I.gb
  have hlx := blk_lt I.hd
  clear I
  go_upto_region 37 with fail
  refine abs_w (R := RI W bx #[.int .i64 x0, .int .i64 0, .int .i64 11, .int .i64 0, .int .i64 0, .int .i64 0, .int .i64 X, .int .i64 Y, .int .i64 8, .int .i64 0, .bool lf, .bool tp, .int .i64 0, .int .i64 0]) ?_ (fun w7 I => ?_)
  · refine ⟨?_, ?_, HEB.out, ?_⟩
    · exact blk_other (blk_other HRES.out HNE.out) HNE.out
    · exact blk_set (blk_set HRI.out.hd 10 (.bool lf)) 11 (.bool tp)
    · exact gb_own (gb_own HGB.out HLE.out (gb_set _ _ _ _)) HLE.out (gb_set _ _ _ _)
  clear a0 a1 a2 a3 a4 a5 a6 a7 a8 a9 a10 a11 a12 a13
  clear fa10 fa11 HRI HRES HGB hlx
  have a0 : w7.cell? ⟨bx, 0, none⟩ = some (.int .i64 x0) := blk_cell I.hd 0
  have a1 : w7.cell? ⟨bx, 1, none⟩ = some (.int .i64 0) := blk_cell I.hd 1
  have a2 : w7.cell? ⟨bx, 2, none⟩ = some (.int .i64 11) := blk_cell I.hd 2
  have a3 : w7.cell? ⟨bx, 3, none⟩ = some (.int .i64 0) := blk_cell I.hd 3
  have a4 : w7.cell? ⟨bx, 4, none⟩ = some (.int .i64 0) := blk_cell I.hd 4
  have a5 : w7.cell? ⟨bx, 5, none⟩ = some (.int .i64 0) := blk_cell I.hd 5
  have a6 : w7.cell? ⟨bx, 6, none⟩ = some (.int .i64 X) := blk_cell I.hd 6
  have a7 : w7.cell? ⟨bx, 7, none⟩ = some (.int .i64 Y) := blk_cell I.hd 7
  have a8 : w7.cell? ⟨bx, 8, none⟩ = some (.int .i64 8) := blk_cell I.hd 8
  have a9 : w7.cell? ⟨bx, 9, none⟩ = some (.int .i64 0) := blk_cell I.hd 9
  have a10 : w7.cell? ⟨bx, 10, none⟩ = some (.bool lf) := blk_cell I.hd 10
  have a11 : w7.cell? ⟨bx, 11, none⟩ = some (.bool tp) := blk_cell I.hd 11
  have a12 : w7.cell? ⟨bx, 12, none⟩ = some (.int .i64 0) := blk_cell I.hd 12
  have a13 : w7.cell? ⟨bx, 13, none⟩ = some (.int .i64 0) := blk_cell I.hd 13
  have r0 : w7.cell? ⟨W.heap.size, 0, none⟩ = some (.int .i64 0) := blk_cell I.res 0
  have rf0 := blk_free I.res 0
  have r1 : w7.cell? ⟨W.heap.size, 1, none⟩ = some (.int .i64 0) := blk_cell I.res 1
  have rf1 := blk_free I.res 1
  have r2 : w7.cell? ⟨W.heap.size, 2, none⟩ = some (.int .i64 0) := blk_cell I.res 2
  have rf2 := blk_free I.res 2
  have r3 : w7.cell? ⟨W.heap.size, 3, none⟩ = some (.int .i64 0) := blk_cell I.res 3
  have rf3 := blk_free I.res 3
  have r4 : w7.cell? ⟨W.heap.size, 4, none⟩ = some (.int .i64 0) := blk_cell I.res 4
  have rf4 := blk_free I.res 4
  have r5 : w7.cell? ⟨W.heap.size, 5, none⟩ = some (.int .i64 0) := blk_cell I.res 5
  have rf5 := blk_free I.res 5
  have r6 : w7.cell? ⟨W.heap.size, 6, none⟩ = some (.int .i64 0) := blk_cell I.res 6
  have rf6 := blk_free I.res 6
  have r7 : w7.cell? ⟨W.heap.size, 7, none⟩ = some (.int .i64 0) := blk_cell I.res 7
  have rf7 := blk_free I.res 7
  have r8 : w7.cell? ⟨W.heap.size, 8, none⟩ = some (.int .i64 0) := blk_cell I.res 8
  have rf8 := blk_free I.res 8
  have r9 : w7.cell? ⟨W.heap.size, 9, none⟩ = some (.int .i64 0) := blk_cell I.res 9
  have rf9 := blk_free I.res 9
  have r10 : w7.cell? ⟨W.heap.size, 10, none⟩ = some (.bool false) := blk_cell I.res 10
  have rf10 := blk_free I.res 10
  have r11 : w7.cell? ⟨W.heap.size, 11, none⟩ = some (.bool false) := blk_cell I.res 11
  have rf11 := blk_free I.res 11
  have r12 : w7.cell? ⟨W.heap.size, 12, none⟩ = some (.int .i64 0) := blk_cell I.res 12
  have rf12 := blk_free I.res 12
  have r13 : w7.cell? ⟨W.heap.size, 13, none⟩ = some (.int .i64 0) := blk_cell I.res 13
  have rf13 := blk_free I.res 13
  have hlr := blk_lt I.res
  have hlx := blk_lt I.hd
  have G9 := Lib.hid I.gb
  have E := Lib.hid (show RV = #[.int .i64 x0, .int .i64 0, .int .i64 11, .int .i64 0, .int .i64 0, .int .i64 0, .int .i64 X, .int .i64 Y, .int .i64 8, .int .i64 0, .bool lf, .bool tp, .int .i64 0, .int .i64 0] from by rw [← ERV.out]; exact HGOOD.out)
  clear I
  go_wp2
  refine bodyPost_ret (v := .agg #[.int .i64 x0, .int .i64 0, .int .i64 11, .int .i64 0, .int .i64 0, .int .i64 0, .int .i64 X, .int .i64 Y, .int .i64 8, .int .i64 0, .bool lf, .bool tp, .int .i64 0, .int .i64 0]) (by simp only [results, Try.results7]; go_simp) rfl ⟨by rw [E.out], ?_⟩
  exact gb_own (gb_own (gb_own (gb_own (gb_own (gb_own (gb_own (gb_own (gb_own (gb_own (gb_own (gb_own (gb_own (gb_own (G9.out) (Nat.le_refl _) (gb_set _ _ _ _)) (Nat.le_refl _) (gb_set _ _ _ _)) (Nat.le_refl _) (gb_set _ _ _ _)) (Nat.le_refl _) (gb_set _ _ _ _)) (Nat.le_refl _) (gb_set _ _ _ _)) (Nat.le_refl _) (gb_set _ _ _ _)) (Nat.le_refl _) (gb_set _ _ _ _)) (Nat.le_refl _) (gb_set _ _ _ _)) (Nat.le_refl _) (gb_set _ _ _ _)) (Nat.le_refl _) (gb_set _ _ _ _)) (Nat.le_refl _) (gb_set _ _ _ _)) (Nat.le_refl _) (gb_set _ _ _ _)) (Nat.le_refl _) (gb_set _ _ _ _)) (Nat.le_refl _) (gb_set _ _ _ _)



end Go.Proofs.Ytgkeopgccocmkaa.Tg
