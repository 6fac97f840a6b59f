/- The document's Read of a good head, with a map, of type 2 (written by tga6c.py). -/
import Derived.Test.YtgkeopgccocmkaaTga6
namespace Go.Proofs.Ytgkeopgccocmkaa.Tg
open Go.ChangeShapes Go.WideShapes Go.ChangeAt Go.RowKit
open Go.Proofs.Ytgkeopgccocmkaa.Le Go.Proofs.Ytgkeopgccocmkaa.Sr
set_option linter.unusedVariables false

set_option maxRecDepth 100000 in
set_option maxHeartbeats 16000000 in
theorem read_mp_12_2_0 (s : ByteArray) (RV : Array Value) (x0 x7 x16 x17 A B X Y : Nat) (lf tp : Bool) (W : World) (h18 : 18 ≤ s.size) (hm : s.size ≤ 9223372036854775807) (C : Ck s 12) (hRV : rV s 12 = RV)
    (e0 : bn s 0 = x0) (e1 : bn s 1 = 1) (e2 : bn s 2 = 2) (e7 : bn s 7 = x7) (e16 : bn s 16 = x16) (e17 : bn s 17 = x17) (eA : wd s 3 = A) (eB : wd s 5 = B) (eX : wd s 12 = X) (eY : wd s 14 = Y) (eal : x17 % 16 = 0) (elf : lft s = lf) (etp : tpp s = tp) :
    Calls Try.prog 7 #[.string s] W fun e w' => e = .returned (.agg RV) ∧ W.grownBy w' none := by
  have bA := wd_lt s 3
  have bB := wd_lt s 5
  have bX := wd_lt s 12
  have bY := wd_lt s 14
  have b0 := bn_lt s 0
  have b2 := bn_lt s 2
  have b7 := bn_lt s 7
  have b16 := bn_lt s 16
  have b17 := bn_lt s 17
  rw [eA] at bA
  rw [eB] at bB
  rw [eX] at bX
  rw [eY] at bY
  rw [e0] at b0
  rw [e2] at b2
  rw [e7] at b7
  rw [e16] at b16
  rw [e17] at b17
  have g0 : ((s[0]'(by omega)).toNat : Int) = x0 := bn_cell s 0 (by omega) e0
  have g1 : ((s[1]'(by omega)).toNat : Int) = 1 := bn_cell s 1 (by omega) e1
  have g2 : ((s[2]'(by omega)).toNat : Int) = 2 := bn_cell s 2 (by omega) e2
  have g7 : ((s[7]'(by omega)).toNat : Int) = x7 := bn_cell s 7 (by omega) e7
  have g16 : ((s[16]'(by omega)).toNat : Int) = x16 := bn_cell s 16 (by omega) e16
  have g17 : ((s[17]'(by omega)).toNat : Int) = x17 := bn_cell s 17 (by omega) e17
  have i0 : 0 < s.size := by omega
  have i1 : (1 : Int) < (s.size : Int) := by omega
  have i2 : (2 : Int) < (s.size : Int) := by omega
  have i7 : (7 : Int) < (s.size : Int) := by omega
  have i16 : (16 : Int) < (s.size : Int) := by omega
  have i17 : (17 : Int) < (s.size : Int) := by omega
  have i18 : ¬ (s.size : Int) < 18 := by omega
  have v0 : IntKind.i64.wrap (x0 : Int) = x0 := by rw [IntKind.wrap_i64]; omega
  have vw : IntKind.i64.wrap 1 = 1 := by rw [IntKind.wrap_i64]; decide
  have v2 : IntKind.i64.wrap (2 : Int) = 2 := by rw [IntKind.wrap_i64]; omega
  have v7 : IntKind.i64.wrap (x7 : Int) = x7 := by rw [IntKind.wrap_i64]; omega
  have v16 : IntKind.i64.wrap (x16 : Int) = x16 := by rw [IntKind.wrap_i64]; omega
  have v17 : IntKind.i64.wrap (x17 : Int) = x17 := by rw [IntKind.wrap_i64]; omega
  have m1 : (x17 : Int) % 16 = 0 := by omega
  have m2 : (x17 : Int).tmod 16 = 0 := by rw [Int.tmod_eq_emod_of_nonneg (by omega)]; exact m1
  obtain ⟨q16, hq16⟩ : ∃ q, x17 / 16 = q := ⟨_, rfl⟩
  obtain ⟨q32, hq32⟩ : ∃ q, x17 / 32 = q := ⟨_, rfl⟩
  obtain ⟨p16, hp16⟩ : ∃ q, q16 % 2 = q := ⟨_, rfl⟩
  obtain ⟨p32, hp32⟩ : ∃ q, q32 % 2 = q := ⟨_, rfl⟩
  have m3 : (x17 : Int) / 16 = q16 := by omega
  have m4 : (x17 : Int).tdiv 16 = q16 := by rw [Int.tdiv_eq_ediv_of_nonneg (by omega)]; exact m3
  have m5 : (x17 : Int) / 32 = q32 := by omega
  have m6 : (x17 : Int).tdiv 32 = q32 := by rw [Int.tdiv_eq_ediv_of_nonneg (by omega)]; exact m5
  have m7 : (q16 : Int) % 2 = p16 := by omega
  have m8 : (q16 : Int).tmod 2 = p16 := by rw [Int.tmod_eq_emod_of_nonneg (by omega)]; exact m7
  have m9 : (q32 : Int) % 2 = p32 := by omega
  have m10 : (q32 : Int).tmod 2 = p32 := by rw [Int.tmod_eq_emod_of_nonneg (by omega)]; exact m9
  have zl : ((p16 : Int) == 1) = lf := by
    rw [← elf]
    unfold lft
    rw [e17, hq16, hp16, Bool.eq_iff_iff]
    simp
    omega
  have zt : ((p32 : Int) == 1) = tp := by
    rw [← etp]
    unfold tpp
    rw [e17, hq32, hp32, Bool.eq_iff_iff]
    simp
    omega
  have KLA := fun u => le_is s 3 (by omega) u
  have KLB := fun u => le_is s 5 (by omega) u
  have KLX := fun u => le_is s 12 (by omega) u
  have KLY := fun u => le_is s 14 (by omega) u
  simp only [eA] at KLA
  simp only [eB] at KLB
  simp only [eX] at KLX
  simp only [eY] at KLY
  have KLA := Lib.hid KLA
  have KLB := Lib.hid KLB
  have KLX := Lib.hid KLX
  have KLY := Lib.hid KLY
  have sA : ∀ w, (Instr.slice 9 (.string s) (some (.int .i64 3)) (some (.int .i64 5)) none).run Try.prog w = .ok (.string (s.extract 3 (3 + 2))) w := fun w => cut_at s 3 2 (by omega) w
  have sB : ∀ w, (Instr.slice 9 (.string s) (some (.int .i64 5)) (some (.int .i64 7)) none).run Try.prog w = .ok (.string (s.extract 5 (5 + 2))) w := fun w => cut_at s 5 2 (by omega) w
  have sX : ∀ w, (Instr.slice 9 (.string s) (some (.int .i64 12)) (some (.int .i64 14)) none).run Try.prog w = .ok (.string (s.extract 12 (12 + 2))) w := fun w => cut_at s 12 2 (by omega) w
  have sY : ∀ w, (Instr.slice 9 (.string s) (some (.int .i64 14)) (some (.int .i64 16)) none).run Try.prog w = .ok (.string (s.extract 14 (14 + 2))) w := fun w => cut_at s 14 2 (by omega) w
  have hmp : mpB s = true := by unfold mpB; rw [e1]; rfl
  have HGOOD : rV s 12 = #[.int .i64 x0, .int .i64 1, .int .i64 2, .int .i64 A, .int .i64 B, .int .i64 x7, .int .i64 X, .int .i64 Y, .int .i64 x16, .int .i64 0, .bool lf, .bool tp, .int .i64 0, .int .i64 0] := by
    unfold rV rGood fst cnt ent alp
    rw [if_pos rfl, hmp, e0, e2, eX, eY, e16, e17, eal, elf, etp]
    simp [eA, eB, e7]
  have HGOOD := Lib.hid HGOOD
  have HMP := Lib.hid hmp
  have HX1 := Lib.hid e1
  have HX2 := Lib.hid e2
  have HX7 := Lib.hid e7
  have HX16 := Lib.hid e16
  have HX17 := Lib.hid e17
  have HB := Lib.hid eB
  have HX := Lib.hid eX
  have HY := Lib.hid eY
  have HAL := Lib.hid eal
  have HC := Lib.hid C
  have ERV := Lib.hid hRV
  clear e0 e1 e2 e7 e16 e17 eA eB eX eY eal elf etp hmp C hRV hq16 hq32 hp16 hp32
  go_enter Try.func7, Try.ntmps7
  go_upto_region 1 with fail
  have hR : (W.alloc (.cells #[.int .i64 0, .int .i64 0, .int .i64 0, .int .i64 0, .int .i64 0, .int .i64 0, .int .i64 0, .int .i64 0, .int .i64 0, .int .i64 0, .bool false, .bool false, .int .i64 0, .int .i64 0] 30)).heap[W.heap.size]? = some (.cells #[.int .i64 0, .int .i64 0, .int .i64 0, .int .i64 0, .int .i64 0, .int .i64 0, .int .i64 0, .int .i64 0, .int .i64 0, .int .i64 0, .bool false, .bool false, .int .i64 0, .int .i64 0] 30 (0, 0)) := blk_at
  have hG := World.grownBy_alloc W (.cells #[.int .i64 0, .int .i64 0, .int .i64 0, .int .i64 0, .int .i64 0, .int .i64 0, .int .i64 0, .int .i64 0, .int .i64 0, .int .i64 0, .bool false, .bool false, .int .i64 0, .int .i64 0] 30) none
  have hZ := size_alloc W (.cells #[.int .i64 0, .int .i64 0, .int .i64 0, .int .i64 0, .int .i64 0, .int .i64 0, .int .i64 0, .int .i64 0, .int .i64 0, .int .i64 0, .bool false, .bool false, .int .i64 0, .int .i64 0] 30)
  generalize W.alloc (.cells #[.int .i64 0, .int .i64 0, .int .i64 0, .int .i64 0, .int .i64 0, .int .i64 0, .int .i64 0, .int .i64 0, .int .i64 0, .int .i64 0, .bool false, .bool false, .int .i64 0, .int .i64 0] 30) = w1 at hR hG hZ ⊢
  obtain ⟨bx, hbx⟩ : ∃ bx, w1.heap.size = bx := ⟨_, rfl⟩
  have HEB := Lib.hid (show bx = W.heap.size + 1 by omega)
  have HNE := Lib.hid (show W.heap.size ≠ bx by omega)
  have HLE := Lib.hid (show W.heap.size ≤ bx by omega)
  have ne1 : W.heap.size ≠ bx := HNE.out
  have ne2 : bx ≠ W.heap.size := fun h => HNE.out h.symm
  have HR := Lib.hid hR
  have HG := Lib.hid hG
  clear hR hG hZ
  have hc1 : ∀ (w : World) (o : Obj), w.drew.alloc o = (w.alloc o).drew := fun _ _ => rfl
  have hc2 : ∀ (w : World) (a : Addr) (v : Value), w.drew.setCell a v = (w.setCell a v).drew := fun w a v => drewN_set w 1 a v
  go_upto_region 10 with fail
  refine wp_region_held_drew (S := fun _ => True) (by kernel_rfl) ?_ (fun hHeld => ?_)
  · first | exact trivial | go_keep
  refine wpAnyH_take (i := 0) (oi := { dst := some 54, op := Go.Op.move (Go.Operand.tmp 0), type := 9, pos := "ref.go:38", after := #[], guard := none }) (v := ?v0_137) rfl (by kernel_rfl) (by kernel_rfl) (by kernel_rfl) (fun _ _ _ h => h) (Or.inl ⟨by rfl, ?hy0_137⟩) (by assumption) ?rest0_137
  case hy0_137 =>
    intro w' hSw
    try dsimp only at hSw
    go_simp
    try with_reducible rfl
  try simp only [Act.put, List.setIfInBounds_toArray, List.set_cons_zero, List.set_cons_succ]
  refine wpAnyH_take (i := 1) (oi := { dst := some 55, op := Go.Op.index 9 (Go.Operand.tmp 54) (Go.Operand.const (Go.Value.int Go.IntKind.i64 0)), type := 5, pos := "ref.go:38", after := #[{ on := 0, ground := Go.Ground.data }], guard := none }) (v := ?v1_138) rfl (by kernel_rfl) (by kernel_rfl) (by kernel_rfl) (fun _ _ _ h => h) (Or.inl ⟨by rfl, ?hy1_138⟩) (by assumption) ?rest1_138
  case hy1_138 =>
    intro w' hSw
    try dsimp only at hSw
    go_simp
    try with_reducible rfl
  try simp only [Act.put, List.setIfInBounds_toArray, List.set_cons_zero, List.set_cons_succ]
  refine wpAnyH_take (i := 2) (oi := { dst := some 56, op := Go.Op.convert 5 3 (Go.Operand.tmp 55), type := 3, pos := "ref.go:38", after := #[{ on := 1, ground := Go.Ground.data }], guard := none }) (v := ?v2_139) rfl (by kernel_rfl) (by kernel_rfl) (by kernel_rfl) (fun _ _ _ h => h) (Or.inl ⟨by rfl, ?hy2_139⟩) (by assumption) ?rest2_139
  case hy2_139 =>
    intro w' hSw
    try dsimp only at hSw
    go_simp
    try with_reducible rfl
  try simp only [Act.put, List.setIfInBounds_toArray, List.set_cons_zero, List.set_cons_succ]
  refine wpAnyH_take (i := 3) (oi := { dst := some 57, op := Go.Op.move (Go.Operand.tmp 0), type := 9, pos := "ref.go:38", after := #[], guard := none }) (v := ?v3_140) rfl (by kernel_rfl) (by kernel_rfl) (by kernel_rfl) (fun _ _ _ h => h) (Or.inl ⟨by rfl, ?hy3_140⟩) (by assumption) ?rest3_140
  case hy3_140 =>
    intro w' hSw
    try dsimp only at hSw
    go_simp
    try with_reducible rfl
  try simp only [Act.put, List.setIfInBounds_toArray, List.set_cons_zero, List.set_cons_succ]
  refine wpAnyH_take (i := 4) (oi := { dst := some 58, op := Go.Op.index 9 (Go.Operand.tmp 57) (Go.Operand.const (Go.Value.int Go.IntKind.i64 1)), type := 5, pos := "ref.go:38", after := #[{ on := 3, ground := Go.Ground.data }], guard := none }) (v := ?v4_141) rfl (by kernel_rfl) (by kernel_rfl) (by kernel_rfl) (fun _ _ _ h => h) (Or.inl ⟨by rfl, ?hy4_141⟩) (by assumption) ?rest4_141
  case hy4_141 =>
    intro w' hSw
    try dsimp only at hSw
    go_simp
    try with_reducible rfl
  try simp only [Act.put, List.setIfInBounds_toArray, List.set_cons_zero, List.set_cons_succ]
  refine wpAnyH_take (i := 5) (oi := { dst := some 59, op := Go.Op.convert 5 3 (Go.Operand.tmp 58), type := 3, pos := "ref.go:38", after := #[{ on := 4, ground := Go.Ground.data }], guard := none }) (v := ?v5_142) rfl (by kernel_rfl) (by kernel_rfl) (by kernel_rfl) (fun _ _ _ h => h) (Or.inl ⟨by rfl, ?hy5_142⟩) (by assumption) ?rest5_142
  case hy5_142 =>
    intro w' hSw
    try dsimp only at hSw
    go_simp
    try with_reducible rfl
  try simp only [Act.put, List.setIfInBounds_toArray, List.set_cons_zero, List.set_cons_succ]
  refine wpAnyH_take (i := 6) (oi := { dst := some 60, op := Go.Op.move (Go.Operand.tmp 3), type := 3, pos := "ref.go:38", after := #[], guard := none }) (v := ?v6_143) rfl (by kernel_rfl) (by kernel_rfl) (by kernel_rfl) (fun _ _ _ h => h) (Or.inl ⟨by rfl, ?hy6_143⟩) (by assumption) ?rest6_143
  case hy6_143 =>
    intro w' hSw
    try dsimp only at hSw
    go_simp
    try with_reducible rfl
  try simp only [Act.put, List.setIfInBounds_toArray, List.set_cons_zero, List.set_cons_succ]
  refine wpAnyH_take (i := 7) (oi := { dst := some 61, op := Go.Op.build 30 #[(0, Go.Operand.tmp 56), (1, Go.Operand.tmp 59), (2, Go.Operand.tmp 60)], type := 30, pos := "ref.go:38", after := #[{ on := 2, ground := Go.Ground.data }, { on := 5, ground := Go.Ground.data }, { on := 6, ground := Go.Ground.data }], guard := none }) (v := ?v7_144) rfl (by kernel_rfl) (by kernel_rfl) (by kernel_rfl) (fun _ _ _ h => h) (Or.inl ⟨by rfl, ?hy7_144⟩) (by assumption) ?rest7_144
  case hy7_144 =>
    intro w' hSw
    try dsimp only at hSw
    go_simp
    try with_reducible rfl
  try simp only [Act.put, List.setIfInBounds_toArray, List.set_cons_zero, List.set_cons_succ]
  refine wpAnyH_ready (rs := [8]) (by kernel_rfl) (by simp) ?_
  refine AllReadyH.cons (o := { dst := some 4, op := Go.Op.alloc 30, type := 0, pos := "ref.go:38", after := #[], guard := none }) rfl (fun K hK => ?_) AllReadyH.nil
  go_simp
  refine hK.out _ _ ?_ (fun hHeld2 => ?_)
  · first | exact trivial | go_keep
  clear hHeld
  have hHeld := hHeld2
  clear hK K hHeld2
  try simp only [Act.put, List.setIfInBounds_toArray, List.set_cons_zero, List.set_cons_succ]
  refine wpAnyH_ready (rs := [9]) (by kernel_rfl) (by simp) ?_
  refine AllReadyH.cons (o := { dst := none, op := Go.Op.store 30 (Go.Operand.tmp 4) (Go.Operand.tmp 61), type := 0, pos := "ref.go:38", after := #[{ on := 8, ground := Go.Ground.data }, { on := 7, ground := Go.Ground.data }, { on := 0, ground := Go.Ground.phase }, { on := 1, ground := Go.Ground.phase }, { on := 2, ground := Go.Ground.phase }, { on := 3, ground := Go.Ground.phase }, { on := 4, ground := Go.Ground.phase }, { on := 5, ground := Go.Ground.phase }, { on := 6, ground := Go.Ground.phase }, { on := 7, ground := Go.Ground.phase }, { on := 8, ground := Go.Ground.phase }], guard := none }) rfl (fun K hK => ?_) AllReadyH.nil
  go_simp
  refine hK.out _ _ ?_ (fun hHeld2 => ?_)
  · first | exact trivial | go_keep
  clear hHeld
  have hHeld := hHeld2
  clear hK K hHeld2
  try simp only [Act.put, List.setIfInBounds_toArray, List.set_cons_zero, List.set_cons_succ]
  refine wpAnyH_done (by kernel_rfl) ?_ _
  refine abs_w (R := RI W bx #[.int .i64 x0, .int .i64 1, .int .i64 2, .int .i64 0, .int .i64 0, .int .i64 0, .int .i64 0, .int .i64 0, .int .i64 0, .int .i64 0, .bool false, .bool false, .int .i64 0, .int .i64 0]) ?_ (fun w2 I => ?_)
  · refine ⟨?_, ?_, HEB.out, ?_⟩
    · exact (blk_al HR.out (.cells #[.int .i64 x0, .int .i64 1, .int .i64 2, .int .i64 0, .int .i64 0, .int .i64 0, .int .i64 0, .int .i64 0, .int .i64 0, .int .i64 0, .bool false, .bool false, .int .i64 0, .int .i64 0] 30))
    · exact at_bx hbx
    · exact gb_trans (gb_trans HG.out (World.grownBy_alloc w1 (.cells #[.int .i64 x0, .int .i64 1, .int .i64 2, .int .i64 0, .int .i64 0, .int .i64 0, .int .i64 0, .int .i64 0, .int .i64 0, .int .i64 0, .bool false, .bool false, .int .i64 0, .int .i64 0] 30) none)) (gb_drew _ _)
  have a0 : w2.cell? ⟨bx, 0, none⟩ = some (.int .i64 x0) := blk_cell I.hd 0
  have a1 : w2.cell? ⟨bx, 1, none⟩ = some (.int .i64 1) := blk_cell I.hd 1
  have a2 : w2.cell? ⟨bx, 2, none⟩ = some (.int .i64 2) := blk_cell I.hd 2
  have a3 : w2.cell? ⟨bx, 3, none⟩ = some (.int .i64 0) := blk_cell I.hd 3
  have a4 : w2.cell? ⟨bx, 4, none⟩ = some (.int .i64 0) := blk_cell I.hd 4
  have a5 : w2.cell? ⟨bx, 5, none⟩ = some (.int .i64 0) := blk_cell I.hd 5
  have a6 : w2.cell? ⟨bx, 6, none⟩ = some (.int .i64 0) := blk_cell I.hd 6
  have a7 : w2.cell? ⟨bx, 7, none⟩ = some (.int .i64 0) := blk_cell I.hd 7
  have a8 : w2.cell? ⟨bx, 8, none⟩ = some (.int .i64 0) := blk_cell I.hd 8
  have a9 : w2.cell? ⟨bx, 9, none⟩ = some (.int .i64 0) := blk_cell I.hd 9
  have a10 : w2.cell? ⟨bx, 10, none⟩ = some (.bool false) := blk_cell I.hd 10
  have a11 : w2.cell? ⟨bx, 11, none⟩ = some (.bool false) := blk_cell I.hd 11
  have a12 : w2.cell? ⟨bx, 12, none⟩ = some (.int .i64 0) := blk_cell I.hd 12
  have a13 : w2.cell? ⟨bx, 13, none⟩ = some (.int .i64 0) := blk_cell I.hd 13
  have fa3 := blk_free I.hd 3
  have fa4 := blk_free I.hd 4
  have fa5 := blk_free I.hd 5
  have fa6 := blk_free I.hd 6
  have fa7 := blk_free I.hd 7
  have HRI := Lib.hid I
  have HRES := Lib.hid I.res
  have HGB := Lib.hid I.gb
  have hlx := blk_lt I.hd
  clear I
  go_upto_region 12 with fail
  refine wp_region_held_drew (S := fun _ => True) (by kernel_rfl) ?_ (fun hHeld => ?_)
  · first | exact trivial | go_keep
  refine wpAnyH_take (i := 0) (oi := { dst := some 65, op := Go.Op.move (Go.Operand.tmp 0), type := 9, pos := "ref.go:40", after := #[], guard := none }) (v := ?v0_145) rfl (by kernel_rfl) (by kernel_rfl) (by kernel_rfl) (fun _ _ _ h => h) (Or.inl ⟨by rfl, ?hy0_145⟩) (by assumption) ?rest0_145
  case hy0_145 =>
    intro w' hSw
    try dsimp only at hSw
    go_simp
    try with_reducible rfl
  try simp only [Act.put, List.setIfInBounds_toArray, List.set_cons_zero, List.set_cons_succ]
  refine wpAnyH_take (i := 1) (oi := { dst := some 66, op := Go.Op.slice 9 (Go.Operand.tmp 65) (some (Go.Operand.const (Go.Value.int Go.IntKind.i64 3))) (some (Go.Operand.const (Go.Value.int Go.IntKind.i64 5))) none, type := 9, pos := "ref.go:40", after := #[{ on := 0, ground := Go.Ground.data }], guard := none }) (v := ?v1_146) rfl (by kernel_rfl) (by kernel_rfl) (by kernel_rfl) (fun _ _ _ h => h) (Or.inl ⟨by rfl, ?hy1_146⟩) (by assumption) ?rest1_146
  case hy1_146 =>
    intro w' hSw
    try dsimp only at hSw
    go_simp
    try with_reducible rfl
  try simp only [Act.put, List.setIfInBounds_toArray, List.set_cons_zero, List.set_cons_succ]
  refine wpAnyH_take (i := 3) (oi := { dst := some 68, op := Go.Op.move (Go.Operand.tmp 0), type := 9, pos := "ref.go:40", after := #[], guard := none }) (v := ?v3_147) rfl (by kernel_rfl) (by kernel_rfl) (by kernel_rfl) (fun _ _ _ h => h) (Or.inl ⟨by rfl, ?hy3_147⟩) (by assumption) ?rest3_147
  case hy3_147 =>
    intro w' hSw
    try dsimp only at hSw
    go_simp
    try with_reducible rfl
  try simp only [Act.put, List.setIfInBounds_toArray, List.set_cons_zero, List.set_cons_succ]
  refine wpAnyH_take (i := 4) (oi := { dst := some 69, op := Go.Op.slice 9 (Go.Operand.tmp 68) (some (Go.Operand.const (Go.Value.int Go.IntKind.i64 5))) (some (Go.Operand.const (Go.Value.int Go.IntKind.i64 7))) none, type := 9, pos := "ref.go:40", after := #[{ on := 3, ground := Go.Ground.data }], guard := none }) (v := ?v4_148) rfl (by kernel_rfl) (by kernel_rfl) (by kernel_rfl) (fun _ _ _ h => h) (Or.inl ⟨by rfl, ?hy4_148⟩) (by assumption) ?rest4_148
  case hy4_148 =>
    intro w' hSw
    try dsimp only at hSw
    go_simp
    try with_reducible rfl
  try simp only [Act.put, List.setIfInBounds_toArray, List.set_cons_zero, List.set_cons_succ]
  refine wpAnyH_take (i := 6) (oi := { dst := some 71, op := Go.Op.move (Go.Operand.tmp 0), type := 9, pos := "ref.go:40", after := #[{ on := 12, ground := Go.Ground.gcOnly Go.Departure.lateStores }], guard := none }) (v := ?v6_149) rfl (by kernel_rfl) (by kernel_rfl) (by kernel_rfl) (fun _ _ _ h => h) (Or.inl ⟨by rfl, ?hy6_149⟩) (by assumption) ?rest6_149
  case hy6_149 =>
    intro w' hSw
    try dsimp only at hSw
    go_simp
    try with_reducible rfl
  try simp only [Act.put, List.setIfInBounds_toArray, List.set_cons_zero, List.set_cons_succ]
  refine wpAnyH_take (i := 7) (oi := { dst := some 72, op := Go.Op.index 9 (Go.Operand.tmp 71) (Go.Operand.const (Go.Value.int Go.IntKind.i64 7)), type := 5, pos := "ref.go:40", after := #[{ on := 6, ground := Go.Ground.data }, { on := 12, ground := Go.Ground.gcOnly Go.Departure.lateStores }], guard := none }) (v := ?v7_150) rfl (by kernel_rfl) (by kernel_rfl) (by kernel_rfl) (fun _ _ _ h => h) (Or.inl ⟨by rfl, ?hy7_150⟩) (by assumption) ?rest7_150
  case hy7_150 =>
    intro w' hSw
    try dsimp only at hSw
    go_simp
    try with_reducible rfl
  try simp only [Act.put, List.setIfInBounds_toArray, List.set_cons_zero, List.set_cons_succ]
  refine wpAnyH_take (i := 8) (oi := { dst := some 73, op := Go.Op.convert 5 3 (Go.Operand.tmp 72), type := 3, pos := "ref.go:40", after := #[{ on := 7, ground := Go.Ground.data }, { on := 12, ground := Go.Ground.gcOnly Go.Departure.lateStores }], guard := none }) (v := ?v8_151) rfl (by kernel_rfl) (by kernel_rfl) (by kernel_rfl) (fun _ _ _ h => h) (Or.inl ⟨by rfl, ?hy8_151⟩) (by assumption) ?rest8_151
  case hy8_151 =>
    intro w' hSw
    try dsimp only at hSw
    go_simp
    try with_reducible rfl
  try simp only [Act.put, List.setIfInBounds_toArray, List.set_cons_zero, List.set_cons_succ]
  refine wpAnyH_ready (rs := [2]) (by kernel_rfl) (by simp) ?_
  refine AllReadyH.cons (o := { dst := some 67, op := Go.Op.call { callee := Go.Callee.value (Go.Operand.func 16), args := #[Go.Operand.tmp 66], argTypes := #[9] }, type := 3, pos := "ref.go:40", after := #[{ on := 1, ground := Go.Ground.data }], guard := none }) rfl (fun K hK => ?_) AllReadyH.nil
  go_simp
  refine (KLA.out _).mono ?_
  rintro e w' ⟨rfl, rfl⟩
  try go_wp2_with fail
  refine hK.out _ _ ?_ (fun hHeld2 => ?_)
  · first | exact trivial | go_keep
  clear hHeld
  have hHeld := hHeld2
  clear hK K hHeld2
  try simp only [Act.put, List.setIfInBounds_toArray, List.set_cons_zero, List.set_cons_succ]
  refine wpAnyH_take (i := 9) (oi := { dst := some 74, op := Go.Op.fieldAddr 30 (Go.Operand.tmp 4) 3, type := 0, pos := "ref.go:40", after := #[{ on := 0, ground := Go.Ground.phase }, { on := 1, ground := Go.Ground.phase }, { on := 2, ground := Go.Ground.phase }, { on := 3, ground := Go.Ground.textOnly Go.Departure.lateStores }, { on := 4, ground := Go.Ground.textOnly Go.Departure.lateStoresUnsure }, { on := 5, ground := Go.Ground.textOnly Go.Departure.lateStoresUnsure }, { on := 6, ground := Go.Ground.textOnly Go.Departure.lateStores }, { on := 7, ground := Go.Ground.textOnly Go.Departure.lateStores }, { on := 8, ground := Go.Ground.textOnly Go.Departure.lateStores }], guard := none }) (v := ?v9_152) rfl (by kernel_rfl) (by kernel_rfl) (by kernel_rfl) (fun _ _ _ h => h) (Or.inl ⟨by rfl, ?hy9_152⟩) (by assumption) ?rest9_152
  case hy9_152 =>
    intro w' hSw
    try dsimp only at hSw
    go_simp
    try with_reducible rfl
  try simp only [Act.put, List.setIfInBounds_toArray, List.set_cons_zero, List.set_cons_succ]
  refine wpAnyH_ready (rs := [5]) (by kernel_rfl) (by simp) ?_
  refine AllReadyH.cons (o := { dst := some 70, op := Go.Op.call { callee := Go.Callee.value (Go.Operand.func 16), args := #[Go.Operand.tmp 69], argTypes := #[9] }, type := 3, pos := "ref.go:40", after := #[{ on := 4, ground := Go.Ground.data }, { on := 2, ground := Go.Ground.chain }], guard := none }) rfl (fun K hK => ?_) AllReadyH.nil
  go_simp
  refine (KLB.out _).mono ?_
  rintro e w' ⟨rfl, rfl⟩
  try go_wp2_with fail
  refine hK.out _ _ ?_ (fun hHeld2 => ?_)
  · first | exact trivial | go_keep
  clear hHeld
  have hHeld := hHeld2
  clear hK K hHeld2
  try simp only [Act.put, List.setIfInBounds_toArray, List.set_cons_zero, List.set_cons_succ]
  refine wpAnyH_ready (rs := [10]) (by kernel_rfl) (by simp) ?_
  refine AllReadyH.cons (o := { dst := none, op := Go.Op.store 3 (Go.Operand.tmp 74) (Go.Operand.tmp 67), type := 0, pos := "ref.go:40", after := #[{ on := 9, ground := Go.Ground.data }, { on := 2, ground := Go.Ground.data }, { on := 5, ground := Go.Ground.chain }, { on := 0, ground := Go.Ground.phase }, { on := 1, ground := Go.Ground.phase }, { on := 2, ground := Go.Ground.phase }, { on := 3, ground := Go.Ground.textOnly Go.Departure.lateStores }, { on := 4, ground := Go.Ground.textOnly Go.Departure.lateStoresUnsure }, { on := 5, ground := Go.Ground.textOnly Go.Departure.lateStoresUnsure }, { on := 6, ground := Go.Ground.textOnly Go.Departure.lateStores }, { on := 7, ground := Go.Ground.textOnly Go.Departure.lateStores }, { on := 8, ground := Go.Ground.textOnly Go.Departure.lateStores }], guard := none }) rfl (fun K hK => ?_) AllReadyH.nil
  go_simp
  refine hK.out _ _ ?_ (fun hHeld2 => ?_)
  · first | exact trivial | go_keep
  clear hHeld
  have hHeld := hHeld2
  clear hK K hHeld2
  try simp only [Act.put, List.setIfInBounds_toArray, List.set_cons_zero, List.set_cons_succ]
  refine wpAnyH_take (i := 11) (oi := { dst := some 75, op := Go.Op.fieldAddr 30 (Go.Operand.tmp 4) 4, type := 0, pos := "ref.go:40", after := #[{ on := 0, ground := Go.Ground.phase }, { on := 1, ground := Go.Ground.phase }, { on := 2, ground := Go.Ground.phase }, { on := 3, ground := Go.Ground.phase }, { on := 4, ground := Go.Ground.phase }, { on := 5, ground := Go.Ground.phase }, { on := 6, ground := Go.Ground.textOnly Go.Departure.lateStores }, { on := 7, ground := Go.Ground.textOnly Go.Departure.lateStores }, { on := 8, ground := Go.Ground.textOnly Go.Departure.lateStores }, { on := 9, ground := Go.Ground.phase }, { on := 10, ground := Go.Ground.phase }], guard := none }) (v := ?v11_153) rfl (by kernel_rfl) (by kernel_rfl) (by kernel_rfl) (fun _ _ _ h => h) (Or.inl ⟨by rfl, ?hy11_153⟩) (by assumption) ?rest11_153
  case hy11_153 =>
    intro w' hSw
    try dsimp only at hSw
    go_simp
    try with_reducible rfl
  try simp only [Act.put, List.setIfInBounds_toArray, List.set_cons_zero, List.set_cons_succ]
  refine wpAnyH_ready (rs := [12]) (by kernel_rfl) (by simp) ?_
  refine AllReadyH.cons (o := { dst := none, op := Go.Op.store 3 (Go.Operand.tmp 75) (Go.Operand.tmp 70), type := 0, pos := "ref.go:40", after := #[{ on := 11, ground := Go.Ground.data }, { on := 5, ground := Go.Ground.data }, { on := 10, ground := Go.Ground.chain }, { on := 0, ground := Go.Ground.phase }, { on := 1, ground := Go.Ground.phase }, { on := 2, ground := Go.Ground.phase }, { on := 3, ground := Go.Ground.phase }, { on := 4, ground := Go.Ground.phase }, { on := 5, ground := Go.Ground.phase }, { on := 6, ground := Go.Ground.textOnly Go.Departure.lateStores }, { on := 7, ground := Go.Ground.textOnly Go.Departure.lateStores }, { on := 8, ground := Go.Ground.textOnly Go.Departure.lateStores }, { on := 9, ground := Go.Ground.phase }, { on := 10, ground := Go.Ground.phase }], guard := none }) rfl (fun K hK => ?_) AllReadyH.nil
  go_simp
  refine hK.out _ _ ?_ (fun hHeld2 => ?_)
  · first | exact trivial | go_keep
  clear hHeld
  have hHeld := hHeld2
  clear hK K hHeld2
  try simp only [Act.put, List.setIfInBounds_toArray, List.set_cons_zero, List.set_cons_succ]
  refine wpAnyH_take (i := 13) (oi := { dst := some 76, op := Go.Op.fieldAddr 30 (Go.Operand.tmp 4) 5, type := 0, pos := "ref.go:40", after := #[{ on := 0, ground := Go.Ground.phase }, { on := 1, ground := Go.Ground.phase }, { on := 2, ground := Go.Ground.phase }, { on := 3, ground := Go.Ground.phase }, { on := 4, ground := Go.Ground.phase }, { on := 5, ground := Go.Ground.phase }, { on := 6, ground := Go.Ground.phase }, { on := 7, ground := Go.Ground.phase }, { on := 8, ground := Go.Ground.phase }, { on := 9, ground := Go.Ground.phase }, { on := 10, ground := Go.Ground.phase }, { on := 11, ground := Go.Ground.phase }, { on := 12, ground := Go.Ground.phase }], guard := none }) (v := ?v13_154) rfl (by kernel_rfl) (by kernel_rfl) (by kernel_rfl) (fun _ _ _ h => h) (Or.inl ⟨by rfl, ?hy13_154⟩) (by assumption) ?rest13_154
  case hy13_154 =>
    intro w' hSw
    try dsimp only at hSw
    go_simp
    try with_reducible rfl
  try simp only [Act.put, List.setIfInBounds_toArray, List.set_cons_zero, List.set_cons_succ]
  refine wpAnyH_ready (rs := [14]) (by kernel_rfl) (by simp) ?_
  refine AllReadyH.cons (o := { dst := none, op := Go.Op.store 3 (Go.Operand.tmp 76) (Go.Operand.tmp 73), type := 0, pos := "ref.go:40", after := #[{ on := 13, ground := Go.Ground.data }, { on := 8, ground := Go.Ground.data }, { on := 12, ground := Go.Ground.chain }, { on := 0, ground := Go.Ground.phase }, { on := 1, ground := Go.Ground.phase }, { on := 2, ground := Go.Ground.phase }, { on := 3, ground := Go.Ground.phase }, { on := 4, ground := Go.Ground.phase }, { on := 5, ground := Go.Ground.phase }, { on := 6, ground := Go.Ground.phase }, { on := 7, ground := Go.Ground.phase }, { on := 8, ground := Go.Ground.phase }, { on := 9, ground := Go.Ground.phase }, { on := 10, ground := Go.Ground.phase }, { on := 11, ground := Go.Ground.phase }, { on := 12, ground := Go.Ground.phase }], guard := none }) rfl (fun K hK => ?_) AllReadyH.nil
  go_simp
  refine hK.out _ _ ?_ (fun hHeld2 => ?_)
  · first | exact trivial | go_keep
  clear hHeld
  have hHeld := hHeld2
  clear hK K hHeld2
  try simp only [Act.put, List.setIfInBounds_toArray, List.set_cons_zero, List.set_cons_succ]
  refine wpAnyH_done (by kernel_rfl) ?_ _
  refine abs_w (R := RI W bx #[.int .i64 x0, .int .i64 1, .int .i64 2, .int .i64 A, .int .i64 B, .int .i64 x7, .int .i64 0, .int .i64 0, .int .i64 0, .int .i64 0, .bool false, .bool false, .int .i64 0, .int .i64 0]) ?_ (fun w3 I => ?_)
  · refine ⟨?_, ?_, HEB.out, ?_⟩
    · exact blk_other (blk_other (blk_other HRES.out HNE.out) HNE.out) HNE.out
    · exact blk_set (blk_set (blk_set HRI.out.hd 3 (.int .i64 A)) 4 (.int .i64 B)) 5 (.int .i64 x7)
    · exact gb_trans (gb_own (gb_own (gb_own HGB.out HLE.out (gb_set _ _ _ _)) HLE.out (gb_set _ _ _ _)) HLE.out (gb_set _ _ _ _)) (gb_drew _ _)
  clear a0 a1 a2 a3 a4 a5 a6 a7 a8 a9 a10 a11 a12 a13
  clear fa3 fa4 fa5 fa6 fa7 HRI HRES HGB hlx
  have a0 : w3.cell? ⟨bx, 0, none⟩ = some (.int .i64 x0) := blk_cell I.hd 0
  have a1 : w3.cell? ⟨bx, 1, none⟩ = some (.int .i64 1) := blk_cell I.hd 1
  have a2 : w3.cell? ⟨bx, 2, none⟩ = some (.int .i64 2) := blk_cell I.hd 2
  have a3 : w3.cell? ⟨bx, 3, none⟩ = some (.int .i64 A) := blk_cell I.hd 3
  have a4 : w3.cell? ⟨bx, 4, none⟩ = some (.int .i64 B) := blk_cell I.hd 4
  have a5 : w3.cell? ⟨bx, 5, none⟩ = some (.int .i64 x7) := blk_cell I.hd 5
  have a6 : w3.cell? ⟨bx, 6, none⟩ = some (.int .i64 0) := blk_cell I.hd 6
  have a7 : w3.cell? ⟨bx, 7, none⟩ = some (.int .i64 0) := blk_cell I.hd 7
  have a8 : w3.cell? ⟨bx, 8, none⟩ = some (.int .i64 0) := blk_cell I.hd 8
  have a9 : w3.cell? ⟨bx, 9, none⟩ = some (.int .i64 0) := blk_cell I.hd 9
  have a10 : w3.cell? ⟨bx, 10, none⟩ = some (.bool false) := blk_cell I.hd 10
  have a11 : w3.cell? ⟨bx, 11, none⟩ = some (.bool false) := blk_cell I.hd 11
  have a12 : w3.cell? ⟨bx, 12, none⟩ = some (.int .i64 0) := blk_cell I.hd 12
  have a13 : w3.cell? ⟨bx, 13, none⟩ = some (.int .i64 0) := blk_cell I.hd 13
  have fa6 := blk_free I.hd 6
  have fa7 := blk_free I.hd 7
  have HRI := Lib.hid I
  have HRES := Lib.hid I.res
  have HGB := Lib.hid I.gb
  have hlx := blk_lt I.hd
  clear I
  go_upto_region 13 with fail
  have KC7 := Lib.hid (fun u => rcolor_calls x7 u)
  have hck : ck s 3 = false := HC.out.no 3 (by omega)
  have hc7 : colB x7 = true := by have h := hck; simp only [ck, HMP.out, HX7.out] at h; simpa using h
  rw [hc7] at KC7
  clear hck hc7
  go_wp2_with fail
  refine (KC7.out _).mono ?_
  rintro e w' ⟨rfl, rfl⟩
  go_upto_region 15 with fail
  have hck : ck s 4 = false := HC.out.no 4 (by omega)
  have d4 : ((B : Int) == 0) = false := by have h := hck; simp only [ck, HMP.out, HB.out] at h; rw [beq_eq_false_iff_ne]; simp at h; omega
  clear hck
  go_upto_region 17 with fail
  refine wp_region_held_drew (S := fun _ => True) (by kernel_rfl) ?_ (fun hHeld => ?_)
  · first | exact trivial | go_keep
  refine wpAnyH_take (i := 0) (oi := { dst := some 86, op := Go.Op.move (Go.Operand.tmp 0), type := 9, pos := "ref.go:48", after := #[], guard := none }) (v := ?v0_155) rfl (by kernel_rfl) (by kernel_rfl) (by kernel_rfl) (fun _ _ _ h => h) (Or.inl ⟨by rfl, ?hy0_155⟩) (by assumption) ?rest0_155
  case hy0_155 =>
    intro w' hSw
    try dsimp only at hSw
    go_simp
    try with_reducible rfl
  try simp only [Act.put, List.setIfInBounds_toArray, List.set_cons_zero, List.set_cons_succ]
  refine wpAnyH_take (i := 1) (oi := { dst := some 87, op := Go.Op.slice 9 (Go.Operand.tmp 86) (some (Go.Operand.const (Go.Value.int Go.IntKind.i64 12))) (some (Go.Operand.const (Go.Value.int Go.IntKind.i64 14))) none, type := 9, pos := "ref.go:48", after := #[{ on := 0, ground := Go.Ground.data }], guard := none }) (v := ?v1_156) rfl (by kernel_rfl) (by kernel_rfl) (by kernel_rfl) (fun _ _ _ h => h) (Or.inl ⟨by rfl, ?hy1_156⟩) (by assumption) ?rest1_156
  case hy1_156 =>
    intro w' hSw
    try dsimp only at hSw
    go_simp
    try with_reducible rfl
  try simp only [Act.put, List.setIfInBounds_toArray, List.set_cons_zero, List.set_cons_succ]
  refine wpAnyH_take (i := 3) (oi := { dst := some 89, op := Go.Op.move (Go.Operand.tmp 0), type := 9, pos := "ref.go:48", after := #[], guard := none }) (v := ?v3_157) rfl (by kernel_rfl) (by kernel_rfl) (by kernel_rfl) (fun _ _ _ h => h) (Or.inl ⟨by rfl, ?hy3_157⟩) (by assumption) ?rest3_157
  case hy3_157 =>
    intro w' hSw
    try dsimp only at hSw
    go_simp
    try with_reducible rfl
  try simp only [Act.put, List.setIfInBounds_toArray, List.set_cons_zero, List.set_cons_succ]
  refine wpAnyH_take (i := 4) (oi := { dst := some 90, op := Go.Op.slice 9 (Go.Operand.tmp 89) (some (Go.Operand.const (Go.Value.int Go.IntKind.i64 14))) (some (Go.Operand.const (Go.Value.int Go.IntKind.i64 16))) none, type := 9, pos := "ref.go:48", after := #[{ on := 3, ground := Go.Ground.data }], guard := none }) (v := ?v4_158) rfl (by kernel_rfl) (by kernel_rfl) (by kernel_rfl) (fun _ _ _ h => h) (Or.inl ⟨by rfl, ?hy4_158⟩) (by assumption) ?rest4_158
  case hy4_158 =>
    intro w' hSw
    try dsimp only at hSw
    go_simp
    try with_reducible rfl
  try simp only [Act.put, List.setIfInBounds_toArray, List.set_cons_zero, List.set_cons_succ]
  refine wpAnyH_ready (rs := [2]) (by kernel_rfl) (by simp) ?_
  refine AllReadyH.cons (o := { dst := some 88, op := Go.Op.call { callee := Go.Callee.value (Go.Operand.func 16), args := #[Go.Operand.tmp 87], argTypes := #[9] }, type := 3, pos := "ref.go:48", after := #[{ on := 1, ground := Go.Ground.data }], guard := none }) rfl (fun K hK => ?_) AllReadyH.nil
  go_simp
  refine (KLX.out _).mono ?_
  rintro e w' ⟨rfl, rfl⟩
  try go_wp2_with fail
  refine hK.out _ _ ?_ (fun hHeld2 => ?_)
  · first | exact trivial | go_keep
  clear hHeld
  have hHeld := hHeld2
  clear hK K hHeld2
  try simp only [Act.put, List.setIfInBounds_toArray, List.set_cons_zero, List.set_cons_succ]
  refine wpAnyH_take (i := 6) (oi := { dst := some 92, op := Go.Op.fieldAddr 30 (Go.Operand.tmp 4) 6, type := 0, pos := "ref.go:48", after := #[{ on := 0, ground := Go.Ground.phase }, { on := 1, ground := Go.Ground.phase }, { on := 2, ground := Go.Ground.phase }, { on := 3, ground := Go.Ground.textOnly Go.Departure.lateStores }, { on := 4, ground := Go.Ground.textOnly Go.Departure.lateStoresUnsure }, { on := 5, ground := Go.Ground.textOnly Go.Departure.lateStoresUnsure }], guard := none }) (v := ?v6_159) rfl (by kernel_rfl) (by kernel_rfl) (by kernel_rfl) (fun _ _ _ h => h) (Or.inl ⟨by rfl, ?hy6_159⟩) (by assumption) ?rest6_159
  case hy6_159 =>
    intro w' hSw
    try dsimp only at hSw
    go_simp
    try with_reducible rfl
  try simp only [Act.put, List.setIfInBounds_toArray, List.set_cons_zero, List.set_cons_succ]
  refine wpAnyH_ready (rs := [5]) (by kernel_rfl) (by simp) ?_
  refine AllReadyH.cons (o := { dst := some 91, op := Go.Op.call { callee := Go.Callee.value (Go.Operand.func 16), args := #[Go.Operand.tmp 90], argTypes := #[9] }, type := 3, pos := "ref.go:48", after := #[{ on := 4, ground := Go.Ground.data }, { on := 2, ground := Go.Ground.chain }], guard := none }) rfl (fun K hK => ?_) AllReadyH.nil
  go_simp
  refine (KLY.out _).mono ?_
  rintro e w' ⟨rfl, rfl⟩
  try go_wp2_with fail
  refine hK.out _ _ ?_ (fun hHeld2 => ?_)
  · first | exact trivial | go_keep
  clear hHeld
  have hHeld := hHeld2
  clear hK K hHeld2
  try simp only [Act.put, List.setIfInBounds_toArray, List.set_cons_zero, List.set_cons_succ]
  refine wpAnyH_ready (rs := [7]) (by kernel_rfl) (by simp) ?_
  refine AllReadyH.cons (o := { dst := none, op := Go.Op.store 3 (Go.Operand.tmp 92) (Go.Operand.tmp 88), type := 0, pos := "ref.go:48", after := #[{ on := 6, ground := Go.Ground.data }, { on := 2, ground := Go.Ground.data }, { on := 5, ground := Go.Ground.chain }, { on := 0, ground := Go.Ground.phase }, { on := 1, ground := Go.Ground.phase }, { on := 2, ground := Go.Ground.phase }, { on := 3, ground := Go.Ground.textOnly Go.Departure.lateStores }, { on := 4, ground := Go.Ground.textOnly Go.Departure.lateStoresUnsure }, { on := 5, ground := Go.Ground.textOnly Go.Departure.lateStoresUnsure }], guard := none }) rfl (fun K hK => ?_) AllReadyH.nil
  go_simp
  refine hK.out _ _ ?_ (fun hHeld2 => ?_)
  · first | exact trivial | go_keep
  clear hHeld
  have hHeld := hHeld2
  clear hK K hHeld2
  try simp only [Act.put, List.setIfInBounds_toArray, List.set_cons_zero, List.set_cons_succ]
  refine wpAnyH_take (i := 8) (oi := { dst := some 93, op := Go.Op.fieldAddr 30 (Go.Operand.tmp 4) 7, type := 0, pos := "ref.go:48", after := #[{ on := 0, ground := Go.Ground.phase }, { on := 1, ground := Go.Ground.phase }, { on := 2, ground := Go.Ground.phase }, { on := 3, ground := Go.Ground.phase }, { on := 4, ground := Go.Ground.phase }, { on := 5, ground := Go.Ground.phase }, { on := 6, ground := Go.Ground.phase }, { on := 7, ground := Go.Ground.phase }], guard := none }) (v := ?v8_160) rfl (by kernel_rfl) (by kernel_rfl) (by kernel_rfl) (fun _ _ _ h => h) (Or.inl ⟨by rfl, ?hy8_160⟩) (by assumption) ?rest8_160
  case hy8_160 =>
    intro w' hSw
    try dsimp only at hSw
    go_simp
    try with_reducible rfl
  try simp only [Act.put, List.setIfInBounds_toArray, List.set_cons_zero, List.set_cons_succ]
  refine wpAnyH_ready (rs := [9]) (by kernel_rfl) (by simp) ?_
  refine AllReadyH.cons (o := { dst := none, op := Go.Op.store 3 (Go.Operand.tmp 93) (Go.Operand.tmp 91), type := 0, pos := "ref.go:48", after := #[{ on := 8, ground := Go.Ground.data }, { on := 5, ground := Go.Ground.data }, { on := 7, ground := Go.Ground.chain }, { on := 0, ground := Go.Ground.phase }, { on := 1, ground := Go.Ground.phase }, { on := 2, ground := Go.Ground.phase }, { on := 3, ground := Go.Ground.phase }, { on := 4, ground := Go.Ground.phase }, { on := 5, ground := Go.Ground.phase }, { on := 6, ground := Go.Ground.phase }, { on := 7, ground := Go.Ground.phase }], guard := none }) rfl (fun K hK => ?_) AllReadyH.nil
  go_simp
  refine hK.out _ _ ?_ (fun hHeld2 => ?_)
  · first | exact trivial | go_keep
  clear hHeld
  have hHeld := hHeld2
  clear hK K hHeld2
  try simp only [Act.put, List.setIfInBounds_toArray, List.set_cons_zero, List.set_cons_succ]
  refine wpAnyH_done (by kernel_rfl) ?_ _
  refine abs_w (R := RI W bx #[.int .i64 x0, .int .i64 1, .int .i64 2, .int .i64 A, .int .i64 B, .int .i64 x7, .int .i64 X, .int .i64 Y, .int .i64 0, .int .i64 0, .bool false, .bool false, .int .i64 0, .int .i64 0]) ?_ (fun w4 I => ?_)
  · refine ⟨?_, ?_, HEB.out, ?_⟩
    · exact blk_other (blk_other HRES.out HNE.out) HNE.out
    · exact blk_set (blk_set HRI.out.hd 6 (.int .i64 X)) 7 (.int .i64 Y)
    · exact gb_trans (gb_own (gb_own HGB.out HLE.out (gb_set _ _ _ _)) HLE.out (gb_set _ _ _ _)) (gb_drew _ _)
  clear a0 a1 a2 a3 a4 a5 a6 a7 a8 a9 a10 a11 a12 a13
  clear fa6 fa7 HRI HRES HGB hlx d4
  have a0 : w4.cell? ⟨bx, 0, none⟩ = some (.int .i64 x0) := blk_cell I.hd 0
  have a1 : w4.cell? ⟨bx, 1, none⟩ = some (.int .i64 1) := blk_cell I.hd 1
  have a2 : w4.cell? ⟨bx, 2, none⟩ = some (.int .i64 2) := blk_cell I.hd 2
  have a3 : w4.cell? ⟨bx, 3, none⟩ = some (.int .i64 A) := blk_cell I.hd 3
  have a4 : w4.cell? ⟨bx, 4, none⟩ = some (.int .i64 B) := blk_cell I.hd 4
  have a5 : w4.cell? ⟨bx, 5, none⟩ = some (.int .i64 x7) := blk_cell I.hd 5
  have a6 : w4.cell? ⟨bx, 6, none⟩ = some (.int .i64 X) := blk_cell I.hd 6
  have a7 : w4.cell? ⟨bx, 7, none⟩ = some (.int .i64 Y) := blk_cell I.hd 7
  have a8 : w4.cell? ⟨bx, 8, none⟩ = some (.int .i64 0) := blk_cell I.hd 8
  have a9 : w4.cell? ⟨bx, 9, none⟩ = some (.int .i64 0) := blk_cell I.hd 9
  have a10 : w4.cell? ⟨bx, 10, none⟩ = some (.bool false) := blk_cell I.hd 10
  have a11 : w4.cell? ⟨bx, 11, none⟩ = some (.bool false) := blk_cell I.hd 11
  have a12 : w4.cell? ⟨bx, 12, none⟩ = some (.int .i64 0) := blk_cell I.hd 12
  have a13 : w4.cell? ⟨bx, 13, none⟩ = some (.int .i64 0) := blk_cell I.hd 13
  have fa8 := blk_free I.hd 8
  have HRI := Lib.hid I
  have HRES := Lib.hid I.res
  have HGB := Lib.hid I.gb
  have hlx := blk_lt I.hd
  clear I
  go_upto_region 18 with fail
  have hck : ck s 5 = false := HC.out.no 5 (by omega)
  have d5 : ((X : Int) == 0) = false := by have h := hck; simp only [ck, HX.out] at h; rw [beq_eq_false_iff_ne]; simp at h; omega
  clear hck
  go_upto_region 20 with fail
  have hck : ck s 6 = false := HC.out.no 6 (by omega)
  have d6 : ¬ (16384 : Int) < X := by have h := hck; simp only [ck, HX.out] at h; simp at h; omega
  clear hck
  go_upto_region 22 with fail
  have hck : ck s 7 = false := HC.out.no 7 (by omega)
  have d7 : ((Y : Int) == 0) = false := by have h := hck; simp only [ck, HY.out] at h; rw [beq_eq_false_iff_ne]; simp at h; omega
  clear hck
  go_upto_region 24 with fail
  have hck : ck s 8 = false := HC.out.no 8 (by omega)
  have d8 : ¬ (16384 : Int) < Y := by have h := hck; simp only [ck, HY.out] at h; simp at h; omega
  clear hck
  go_upto_region 27 with fail
  clear d5 d6 d7 d8
  refine abs_w (R := RI W bx #[.int .i64 x0, .int .i64 1, .int .i64 2, .int .i64 A, .int .i64 B, .int .i64 x7, .int .i64 X, .int .i64 Y, .int .i64 x16, .int .i64 0, .bool false, .bool false, .int .i64 0, .int .i64 0]) ?_ (fun w5 I => ?_)
  · refine ⟨?_, ?_, HEB.out, ?_⟩
    · exact blk_other HRES.out HNE.out
    · exact blk_set HRI.out.hd 8 (.int .i64 x16)
    · exact gb_own HGB.out HLE.out (gb_set _ _ _ _)
  clear a0 a1 a2 a3 a4 a5 a6 a7 a8 a9 a10 a11 a12 a13
  clear fa8 HRI HRES HGB hlx
  have a0 : w5.cell? ⟨bx, 0, none⟩ = some (.int .i64 x0) := blk_cell I.hd 0
  have a1 : w5.cell? ⟨bx, 1, none⟩ = some (.int .i64 1) := blk_cell I.hd 1
  have a2 : w5.cell? ⟨bx, 2, none⟩ = some (.int .i64 2) := blk_cell I.hd 2
  have a3 : w5.cell? ⟨bx, 3, none⟩ = some (.int .i64 A) := blk_cell I.hd 3
  have a4 : w5.cell? ⟨bx, 4, none⟩ = some (.int .i64 B) := blk_cell I.hd 4
  have a5 : w5.cell? ⟨bx, 5, none⟩ = some (.int .i64 x7) := blk_cell I.hd 5
  have a6 : w5.cell? ⟨bx, 6, none⟩ = some (.int .i64 X) := blk_cell I.hd 6
  have a7 : w5.cell? ⟨bx, 7, none⟩ = some (.int .i64 Y) := blk_cell I.hd 7
  have a8 : w5.cell? ⟨bx, 8, none⟩ = some (.int .i64 x16) := blk_cell I.hd 8
  have a9 : w5.cell? ⟨bx, 9, none⟩ = some (.int .i64 0) := blk_cell I.hd 9
  have a10 : w5.cell? ⟨bx, 10, none⟩ = some (.bool false) := blk_cell I.hd 10
  have a11 : w5.cell? ⟨bx, 11, none⟩ = some (.bool false) := blk_cell I.hd 11
  have a12 : w5.cell? ⟨bx, 12, none⟩ = some (.int .i64 0) := blk_cell I.hd 12
  have a13 : w5.cell? ⟨bx, 13, none⟩ = some (.int .i64 0) := blk_cell I.hd 13
  have fa9 := blk_free I.hd 9
  have HRI := Lib.hid I
  have HRES := Lib.hid I.res
  have HGB := Lib.hid I.gb
  have hlx := blk_lt I.hd
  clear I
  have KC16 := fun u => rcolor_calls x16 u
  have hcol : colB x16 = true := by
    have h : (!(dpB (bn s 16) (bn s 2))) = false := HC.out.no 9 (by omega)
    rw [HX16.out, HX2.out] at h
    have e : dpB x16 2 = colB x16 := by unfold dpB pln; rfl
    rw [e] at h
    simpa using h
  simp only [hcol] at KC16
  have KC16 := Lib.hid KC16
  clear hcol
  go_wp2_with fail
  refine (KC16.out _).mono ?_
  rintro e w' ⟨rfl, rfl⟩
  go_upto_region 30 with fail
  have hck : ck s 10 = false := HC.out.no 10 (by omega)
  have d10 : ¬ (64 : Int) ≤ x17 := by have h := hck; simp only [ck, HX17.out] at h; simp at h; omega
  clear hck
  go_upto_region 33 with fail
  clear d10
  refine abs_w (R := RI W bx #[.int .i64 x0, .int .i64 1, .int .i64 2, .int .i64 A, .int .i64 B, .int .i64 x7, .int .i64 X, .int .i64 Y, .int .i64 x16, .int .i64 0, .bool false, .bool false, .int .i64 0, .int .i64 0]) ?_ (fun w6 I => ?_)
  · refine ⟨?_, ?_, HEB.out, ?_⟩
    · exact blk_other HRES.out HNE.out
    · exact blk_set HRI.out.hd 9 (.int .i64 0)
    · exact gb_own HGB.out HLE.out (gb_set _ _ _ _)
  clear a0 a1 a2 a3 a4 a5 a6 a7 a8 a9 a10 a11 a12 a13
  clear fa9 HRI HRES HGB hlx
  have a0 : w6.cell? ⟨bx, 0, none⟩ = some (.int .i64 x0) := blk_cell I.hd 0
  have a1 : w6.cell? ⟨bx, 1, none⟩ = some (.int .i64 1) := blk_cell I.hd 1
  have a2 : w6.cell? ⟨bx, 2, none⟩ = some (.int .i64 2) := blk_cell I.hd 2
  have a3 : w6.cell? ⟨bx, 3, none⟩ = some (.int .i64 A) := blk_cell I.hd 3
  have a4 : w6.cell? ⟨bx, 4, none⟩ = some (.int .i64 B) := blk_cell I.hd 4
  have a5 : w6.cell? ⟨bx, 5, none⟩ = some (.int .i64 x7) := blk_cell I.hd 5
  have a6 : w6.cell? ⟨bx, 6, none⟩ = some (.int .i64 X) := blk_cell I.hd 6
  have a7 : w6.cell? ⟨bx, 7, none⟩ = some (.int .i64 Y) := blk_cell I.hd 7
  have a8 : w6.cell? ⟨bx, 8, none⟩ = some (.int .i64 x16) := blk_cell I.hd 8
  have a9 : w6.cell? ⟨bx, 9, none⟩ = some (.int .i64 0) := blk_cell I.hd 9
  have a10 : w6.cell? ⟨bx, 10, none⟩ = some (.bool false) := blk_cell I.hd 10
  have a11 : w6.cell? ⟨bx, 11, none⟩ = some (.bool false) := blk_cell I.hd 11
  have a12 : w6.cell? ⟨bx, 12, none⟩ = some (.int .i64 0) := blk_cell I.hd 12
  have a13 : w6.cell? ⟨bx, 13, none⟩ = some (.int .i64 0) := blk_cell I.hd 13
  have fa10 := blk_free I.hd 10
  have fa11 := blk_free I.hd 11
  have HRI := Lib.hid I
  have HRES := Lib.hid I.res
  have HGB := Lib.hid I.gb
  have hlx := blk_lt I.hd
  clear I
  go_upto_region 37 with fail
  refine abs_w (R := RI W bx #[.int .i64 x0, .int .i64 1, .int .i64 2, .int .i64 A, .int .i64 B, .int .i64 x7, .int .i64 X, .int .i64 Y, .int .i64 x16, .int .i64 0, .bool lf, .bool tp, .int .i64 0, .int .i64 0]) ?_ (fun w7 I => ?_)
  · refine ⟨?_, ?_, HEB.out, ?_⟩
    · exact blk_other (blk_other HRES.out HNE.out) HNE.out
    · exact blk_set (blk_set HRI.out.hd 10 (.bool lf)) 11 (.bool tp)
    · exact gb_own (gb_own HGB.out HLE.out (gb_set _ _ _ _)) HLE.out (gb_set _ _ _ _)
  clear a0 a1 a2 a3 a4 a5 a6 a7 a8 a9 a10 a11 a12 a13
  clear fa10 fa11 HRI HRES HGB hlx
  have a0 : w7.cell? ⟨bx, 0, none⟩ = some (.int .i64 x0) := blk_cell I.hd 0
  have a1 : w7.cell? ⟨bx, 1, none⟩ = some (.int .i64 1) := blk_cell I.hd 1
  have a2 : w7.cell? ⟨bx, 2, none⟩ = some (.int .i64 2) := blk_cell I.hd 2
  have a3 : w7.cell? ⟨bx, 3, none⟩ = some (.int .i64 A) := blk_cell I.hd 3
  have a4 : w7.cell? ⟨bx, 4, none⟩ = some (.int .i64 B) := blk_cell I.hd 4
  have a5 : w7.cell? ⟨bx, 5, none⟩ = some (.int .i64 x7) := blk_cell I.hd 5
  have a6 : w7.cell? ⟨bx, 6, none⟩ = some (.int .i64 X) := blk_cell I.hd 6
  have a7 : w7.cell? ⟨bx, 7, none⟩ = some (.int .i64 Y) := blk_cell I.hd 7
  have a8 : w7.cell? ⟨bx, 8, none⟩ = some (.int .i64 x16) := blk_cell I.hd 8
  have a9 : w7.cell? ⟨bx, 9, none⟩ = some (.int .i64 0) := blk_cell I.hd 9
  have a10 : w7.cell? ⟨bx, 10, none⟩ = some (.bool lf) := blk_cell I.hd 10
  have a11 : w7.cell? ⟨bx, 11, none⟩ = some (.bool tp) := blk_cell I.hd 11
  have a12 : w7.cell? ⟨bx, 12, none⟩ = some (.int .i64 0) := blk_cell I.hd 12
  have a13 : w7.cell? ⟨bx, 13, none⟩ = some (.int .i64 0) := blk_cell I.hd 13
  have r0 : w7.cell? ⟨W.heap.size, 0, none⟩ = some (.int .i64 0) := blk_cell I.res 0
  have rf0 := blk_free I.res 0
  have r1 : w7.cell? ⟨W.heap.size, 1, none⟩ = some (.int .i64 0) := blk_cell I.res 1
  have rf1 := blk_free I.res 1
  have r2 : w7.cell? ⟨W.heap.size, 2, none⟩ = some (.int .i64 0) := blk_cell I.res 2
  have rf2 := blk_free I.res 2
  have r3 : w7.cell? ⟨W.heap.size, 3, none⟩ = some (.int .i64 0) := blk_cell I.res 3
  have rf3 := blk_free I.res 3
  have r4 : w7.cell? ⟨W.heap.size, 4, none⟩ = some (.int .i64 0) := blk_cell I.res 4
  have rf4 := blk_free I.res 4
  have r5 : w7.cell? ⟨W.heap.size, 5, none⟩ = some (.int .i64 0) := blk_cell I.res 5
  have rf5 := blk_free I.res 5
  have r6 : w7.cell? ⟨W.heap.size, 6, none⟩ = some (.int .i64 0) := blk_cell I.res 6
  have rf6 := blk_free I.res 6
  have r7 : w7.cell? ⟨W.heap.size, 7, none⟩ = some (.int .i64 0) := blk_cell I.res 7
  have rf7 := blk_free I.res 7
  have r8 : w7.cell? ⟨W.heap.size, 8, none⟩ = some (.int .i64 0) := blk_cell I.res 8
  have rf8 := blk_free I.res 8
  have r9 : w7.cell? ⟨W.heap.size, 9, none⟩ = some (.int .i64 0) := blk_cell I.res 9
  have rf9 := blk_free I.res 9
  have r10 : w7.cell? ⟨W.heap.size, 10, none⟩ = some (.bool false) := blk_cell I.res 10
  have rf10 := blk_free I.res 10
  have r11 : w7.cell? ⟨W.heap.size, 11, none⟩ = some (.bool false) := blk_cell I.res 11
  have rf11 := blk_free I.res 11
  have r12 : w7.cell? ⟨W.heap.size, 12, none⟩ = some (.int .i64 0) := blk_cell I.res 12
  have rf12 := blk_free I.res 12
  have r13 : w7.cell? ⟨W.heap.size, 13, none⟩ = some (.int .i64 0) := blk_cell I.res 13
  have rf13 := blk_free I.res 13
  have hlr := blk_lt I.res
  have hlx := blk_lt I.hd
  have G9 := Lib.hid I.gb
  have E := Lib.hid (show RV = #[.int .i64 x0, .int .i64 1, .int .i64 2, .int .i64 A, .int .i64 B, .int .i64 x7, .int .i64 X, .int .i64 Y, .int .i64 x16, .int .i64 0, .bool lf, .bool tp, .int .i64 0, .int .i64 0] from by rw [← ERV.out]; exact HGOOD.out)
  clear I
  go_wp2
  refine bodyPost_ret (v := .agg #[.int .i64 x0, .int .i64 1, .int .i64 2, .int .i64 A, .int .i64 B, .int .i64 x7, .int .i64 X, .int .i64 Y, .int .i64 x16, .int .i64 0, .bool lf, .bool tp, .int .i64 0, .int .i64 0]) (by simp only [results, Try.results7]; go_simp) rfl ⟨by rw [E.out], ?_⟩
  exact gb_own (gb_own (gb_own (gb_own (gb_own (gb_own (gb_own (gb_own (gb_own (gb_own (gb_own (gb_own (gb_own (gb_own (G9.out) (Nat.le_refl _) (gb_set _ _ _ _)) (Nat.le_refl _) (gb_set _ _ _ _)) (Nat.le_refl _) (gb_set _ _ _ _)) (Nat.le_refl _) (gb_set _ _ _ _)) (Nat.le_refl _) (gb_set _ _ _ _)) (Nat.le_refl _) (gb_set _ _ _ _)) (Nat.le_refl _) (gb_set _ _ _ _)) (Nat.le_refl _) (gb_set _ _ _ _)) (Nat.le_refl _) (gb_set _ _ _ _)) (Nat.le_refl _) (gb_set _ _ _ _)) (Nat.le_refl _) (gb_set _ _ _ _)) (Nat.le_refl _) (gb_set _ _ _ _)) (Nat.le_refl _) (gb_set _ _ _ _)) (Nat.le_refl _) (gb_set _ _ _ _)


set_option maxRecDepth 100000 in
set_option maxHeartbeats 16000000 in
theorem read_mp_12_2_32_8 (s : ByteArray) (RV : Array Value) (x0 x7 x17 A B X Y : Nat) (lf tp : Bool) (W : World) (h18 : 18 ≤ s.size) (hm : s.size ≤ 9223372036854775807) (C : Ck s 12) (hRV : rV s 12 = RV)
    (e0 : bn s 0 = x0) (e1 : bn s 1 = 1) (e2 : bn s 2 = 2) (e7 : bn s 7 = x7) (e16 : bn s 16 = 32) (e17 : bn s 17 = x17) (eA : wd s 3 = A) (eB : wd s 5 = B) (eX : wd s 12 = X) (eY : wd s 14 = Y) (eal : x17 % 16 = 8) (elf : lft s = lf) (etp : tpp s = tp) :
    Calls Try.prog 7 #[.string s] W fun e w' => e = .returned (.agg RV) ∧ W.grownBy w' none := by
  have bA := wd_lt s 3
  have bB := wd_lt s 5
  have bX := wd_lt s 12
  have bY := wd_lt s 14
  have b0 := bn_lt s 0
  have b2 := bn_lt s 2
  have b7 := bn_lt s 7
  have b16 := bn_lt s 16
  have b17 := bn_lt s 17
  rw [eA] at bA
  rw [eB] at bB
  rw [eX] at bX
  rw [eY] at bY
  rw [e0] at b0
  rw [e2] at b2
  rw [e7] at b7
  rw [e16] at b16
  rw [e17] at b17
  have g0 : ((s[0]'(by omega)).toNat : Int) = x0 := bn_cell s 0 (by omega) e0
  have g1 : ((s[1]'(by omega)).toNat : Int) = 1 := bn_cell s 1 (by omega) e1
  have g2 : ((s[2]'(by omega)).toNat : Int) = 2 := bn_cell s 2 (by omega) e2
  have g7 : ((s[7]'(by omega)).toNat : Int) = x7 := bn_cell s 7 (by omega) e7
  have g16 : ((s[16]'(by omega)).toNat : Int) = 32 := bn_cell s 16 (by omega) e16
  have g17 : ((s[17]'(by omega)).toNat : Int) = x17 := bn_cell s 17 (by omega) e17
  have i0 : 0 < s.size := by omega
  have i1 : (1 : Int) < (s.size : Int) := by omega
  have i2 : (2 : Int) < (s.size : Int) := by omega
  have i7 : (7 : Int) < (s.size : Int) := by omega
  have i16 : (16 : Int) < (s.size : Int) := by omega
  have i17 : (17 : Int) < (s.size : Int) := by omega
  have i18 : ¬ (s.size : Int) < 18 := by omega
  have v0 : IntKind.i64.wrap (x0 : Int) = x0 := by rw [IntKind.wrap_i64]; omega
  have vw : IntKind.i64.wrap 1 = 1 := by rw [IntKind.wrap_i64]; decide
  have v2 : IntKind.i64.wrap (2 : Int) = 2 := by rw [IntKind.wrap_i64]; omega
  have v7 : IntKind.i64.wrap (x7 : Int) = x7 := by rw [IntKind.wrap_i64]; omega
  have v16 : IntKind.i64.wrap (32 : Int) = 32 := by rw [IntKind.wrap_i64]; omega
  have v17 : IntKind.i64.wrap (x17 : Int) = x17 := by rw [IntKind.wrap_i64]; omega
  have m1 : (x17 : Int) % 16 = 8 := by omega
  have m2 : (x17 : Int).tmod 16 = 8 := by rw [Int.tmod_eq_emod_of_nonneg (by omega)]; exact m1
  obtain ⟨q16, hq16⟩ : ∃ q, x17 / 16 = q := ⟨_, rfl⟩
  obtain ⟨q32, hq32⟩ : ∃ q, x17 / 32 = q := ⟨_, rfl⟩
  obtain ⟨p16, hp16⟩ : ∃ q, q16 % 2 = q := ⟨_, rfl⟩
  obtain ⟨p32, hp32⟩ : ∃ q, q32 % 2 = q := ⟨_, rfl⟩
  have m3 : (x17 : Int) / 16 = q16 := by omega
  have m4 : (x17 : Int).tdiv 16 = q16 := by rw [Int.tdiv_eq_ediv_of_nonneg (by omega)]; exact m3
  have m5 : (x17 : Int) / 32 = q32 := by omega
  have m6 : (x17 : Int).tdiv 32 = q32 := by rw [Int.tdiv_eq_ediv_of_nonneg (by omega)]; exact m5
  have m7 : (q16 : Int) % 2 = p16 := by omega
  have m8 : (q16 : Int).tmod 2 = p16 := by rw [Int.tmod_eq_emod_of_nonneg (by omega)]; exact m7
  have m9 : (q32 : Int) % 2 = p32 := by omega
  have m10 : (q32 : Int).tmod 2 = p32 := by rw [Int.tmod_eq_emod_of_nonneg (by omega)]; exact m9
  have zl : ((p16 : Int) == 1) = lf := by
    rw [← elf]
    unfold lft
    rw [e17, hq16, hp16, Bool.eq_iff_iff]
    simp
    omega
  have zt : ((p32 : Int) == 1) = tp := by
    rw [← etp]
    unfold tpp
    rw [e17, hq32, hp32, Bool.eq_iff_iff]
    simp
    omega
  have KLA := fun u => le_is s 3 (by omega) u
  have KLB := fun u => le_is s 5 (by omega) u
  have KLX := fun u => le_is s 12 (by omega) u
  have KLY := fun u => le_is s 14 (by omega) u
  simp only [eA] at KLA
  simp only [eB] at KLB
  simp only [eX] at KLX
  simp only [eY] at KLY
  have KLA := Lib.hid KLA
  have KLB := Lib.hid KLB
  have KLX := Lib.hid KLX
  have KLY := Lib.hid KLY
  have sA : ∀ w, (Instr.slice 9 (.string s) (some (.int .i64 3)) (some (.int .i64 5)) none).run Try.prog w = .ok (.string (s.extract 3 (3 + 2))) w := fun w => cut_at s 3 2 (by omega) w
  have sB : ∀ w, (Instr.slice 9 (.string s) (some (.int .i64 5)) (some (.int .i64 7)) none).run Try.prog w = .ok (.string (s.extract 5 (5 + 2))) w := fun w => cut_at s 5 2 (by omega) w
  have sX : ∀ w, (Instr.slice 9 (.string s) (some (.int .i64 12)) (some (.int .i64 14)) none).run Try.prog w = .ok (.string (s.extract 12 (12 + 2))) w := fun w => cut_at s 12 2 (by omega) w
  have sY : ∀ w, (Instr.slice 9 (.string s) (some (.int .i64 14)) (some (.int .i64 16)) none).run Try.prog w = .ok (.string (s.extract 14 (14 + 2))) w := fun w => cut_at s 14 2 (by omega) w
  have hmp : mpB s = true := by unfold mpB; rw [e1]; rfl
  have HGOOD : rV s 12 = #[.int .i64 x0, .int .i64 1, .int .i64 2, .int .i64 A, .int .i64 B, .int .i64 x7, .int .i64 X, .int .i64 Y, .int .i64 32, .int .i64 8, .bool lf, .bool tp, .int .i64 0, .int .i64 0] := by
    unfold rV rGood fst cnt ent alp
    rw [if_pos rfl, hmp, e0, e2, eX, eY, e16, e17, eal, elf, etp]
    simp [eA, eB, e7]
  have HGOOD := Lib.hid HGOOD
  have HMP := Lib.hid hmp
  have HX1 := Lib.hid e1
  have HX2 := Lib.hid e2
  have HX7 := Lib.hid e7
  have HX16 := Lib.hid e16
  have HX17 := Lib.hid e17
  have HB := Lib.hid eB
  have HX := Lib.hid eX
  have HY := Lib.hid eY
  have HAL := Lib.hid eal
  have HC := Lib.hid C
  have ERV := Lib.hid hRV
  clear e0 e1 e2 e7 e16 e17 eA eB eX eY eal elf etp hmp C hRV hq16 hq32 hp16 hp32
  go_enter Try.func7, Try.ntmps7
  go_upto_region 1 with fail
  have hR : (W.alloc (.cells #[.int .i64 0, .int .i64 0, .int .i64 0, .int .i64 0, .int .i64 0, .int .i64 0, .int .i64 0, .int .i64 0, .int .i64 0, .int .i64 0, .bool false, .bool false, .int .i64 0, .int .i64 0] 30)).heap[W.heap.size]? = some (.cells #[.int .i64 0, .int .i64 0, .int .i64 0, .int .i64 0, .int .i64 0, .int .i64 0, .int .i64 0, .int .i64 0, .int .i64 0, .int .i64 0, .bool false, .bool false, .int .i64 0, .int .i64 0] 30 (0, 0)) := blk_at
  have hG := World.grownBy_alloc W (.cells #[.int .i64 0, .int .i64 0, .int .i64 0, .int .i64 0, .int .i64 0, .int .i64 0, .int .i64 0, .int .i64 0, .int .i64 0, .int .i64 0, .bool false, .bool false, .int .i64 0, .int .i64 0] 30) none
  have hZ := size_alloc W (.cells #[.int .i64 0, .int .i64 0, .int .i64 0, .int .i64 0, .int .i64 0, .int .i64 0, .int .i64 0, .int .i64 0, .int .i64 0, .int .i64 0, .bool false, .bool false, .int .i64 0, .int .i64 0] 30)
  generalize W.alloc (.cells #[.int .i64 0, .int .i64 0, .int .i64 0, .int .i64 0, .int .i64 0, .int .i64 0, .int .i64 0, .int .i64 0, .int .i64 0, .int .i64 0, .bool false, .bool false, .int .i64 0, .int .i64 0] 30) = w1 at hR hG hZ ⊢
  obtain ⟨bx, hbx⟩ : ∃ bx, w1.heap.size = bx := ⟨_, rfl⟩
  have HEB := Lib.hid (show bx = W.heap.size + 1 by omega)
  have HNE := Lib.hid (show W.heap.size ≠ bx by omega)
  have HLE := Lib.hid (show W.heap.size ≤ bx by omega)
  have ne1 : W.heap.size ≠ bx := HNE.out
  have ne2 : bx ≠ W.heap.size := fun h => HNE.out h.symm
  have HR := Lib.hid hR
  have HG := Lib.hid hG
  clear hR hG hZ
  have hc1 : ∀ (w : World) (o : Obj), w.drew.alloc o = (w.alloc o).drew := fun _ _ => rfl
  have hc2 : ∀ (w : World) (a : Addr) (v : Value), w.drew.setCell a v = (w.setCell a v).drew := fun w a v => drewN_set w 1 a v
  go_upto_region 10 with fail
  refine wp_region_held_drew (S := fun _ => True) (by kernel_rfl) ?_ (fun hHeld => ?_)
  · first | exact trivial | go_keep
  refine wpAnyH_take (i := 0) (oi := { dst := some 54, op := Go.Op.move (Go.Operand.tmp 0), type := 9, pos := "ref.go:38", after := #[], guard := none }) (v := ?v0_161) rfl (by kernel_rfl) (by kernel_rfl) (by kernel_rfl) (fun _ _ _ h => h) (Or.inl ⟨by rfl, ?hy0_161⟩) (by assumption) ?rest0_161
  case hy0_161 =>
    intro w' hSw
    try dsimp only at hSw
    go_simp
    try with_reducible rfl
  try simp only [Act.put, List.setIfInBounds_toArray, List.set_cons_zero, List.set_cons_succ]
  refine wpAnyH_take (i := 1) (oi := { dst := some 55, op := Go.Op.index 9 (Go.Operand.tmp 54) (Go.Operand.const (Go.Value.int Go.IntKind.i64 0)), type := 5, pos := "ref.go:38", after := #[{ on := 0, ground := Go.Ground.data }], guard := none }) (v := ?v1_162) rfl (by kernel_rfl) (by kernel_rfl) (by kernel_rfl) (fun _ _ _ h => h) (Or.inl ⟨by rfl, ?hy1_162⟩) (by assumption) ?rest1_162
  case hy1_162 =>
    intro w' hSw
    try dsimp only at hSw
    go_simp
    try with_reducible rfl
  try simp only [Act.put, List.setIfInBounds_toArray, List.set_cons_zero, List.set_cons_succ]
  refine wpAnyH_take (i := 2) (oi := { dst := some 56, op := Go.Op.convert 5 3 (Go.Operand.tmp 55), type := 3, pos := "ref.go:38", after := #[{ on := 1, ground := Go.Ground.data }], guard := none }) (v := ?v2_163) rfl (by kernel_rfl) (by kernel_rfl) (by kernel_rfl) (fun _ _ _ h => h) (Or.inl ⟨by rfl, ?hy2_163⟩) (by assumption) ?rest2_163
  case hy2_163 =>
    intro w' hSw
    try dsimp only at hSw
    go_simp
    try with_reducible rfl
  try simp only [Act.put, List.setIfInBounds_toArray, List.set_cons_zero, List.set_cons_succ]
  refine wpAnyH_take (i := 3) (oi := { dst := some 57, op := Go.Op.move (Go.Operand.tmp 0), type := 9, pos := "ref.go:38", after := #[], guard := none }) (v := ?v3_164) rfl (by kernel_rfl) (by kernel_rfl) (by kernel_rfl) (fun _ _ _ h => h) (Or.inl ⟨by rfl, ?hy3_164⟩) (by assumption) ?rest3_164
  case hy3_164 =>
    intro w' hSw
    try dsimp only at hSw
    go_simp
    try with_reducible rfl
  try simp only [Act.put, List.setIfInBounds_toArray, List.set_cons_zero, List.set_cons_succ]
  refine wpAnyH_take (i := 4) (oi := { dst := some 58, op := Go.Op.index 9 (Go.Operand.tmp 57) (Go.Operand.const (Go.Value.int Go.IntKind.i64 1)), type := 5, pos := "ref.go:38", after := #[{ on := 3, ground := Go.Ground.data }], guard := none }) (v := ?v4_165) rfl (by kernel_rfl) (by kernel_rfl) (by kernel_rfl) (fun _ _ _ h => h) (Or.inl ⟨by rfl, ?hy4_165⟩) (by assumption) ?rest4_165
  case hy4_165 =>
    intro w' hSw
    try dsimp only at hSw
    go_simp
    try with_reducible rfl
  try simp only [Act.put, List.setIfInBounds_toArray, List.set_cons_zero, List.set_cons_succ]
  refine wpAnyH_take (i := 5) (oi := { dst := some 59, op := Go.Op.convert 5 3 (Go.Operand.tmp 58), type := 3, pos := "ref.go:38", after := #[{ on := 4, ground := Go.Ground.data }], guard := none }) (v := ?v5_166) rfl (by kernel_rfl) (by kernel_rfl) (by kernel_rfl) (fun _ _ _ h => h) (Or.inl ⟨by rfl, ?hy5_166⟩) (by assumption) ?rest5_166
  case hy5_166 =>
    intro w' hSw
    try dsimp only at hSw
    go_simp
    try with_reducible rfl
  try simp only [Act.put, List.setIfInBounds_toArray, List.set_cons_zero, List.set_cons_succ]
  refine wpAnyH_take (i := 6) (oi := { dst := some 60, op := Go.Op.move (Go.Operand.tmp 3), type := 3, pos := "ref.go:38", after := #[], guard := none }) (v := ?v6_167) rfl (by kernel_rfl) (by kernel_rfl) (by kernel_rfl) (fun _ _ _ h => h) (Or.inl ⟨by rfl, ?hy6_167⟩) (by assumption) ?rest6_167
  case hy6_167 =>
    intro w' hSw
    try dsimp only at hSw
    go_simp
    try with_reducible rfl
  try simp only [Act.put, List.setIfInBounds_toArray, List.set_cons_zero, List.set_cons_succ]
  refine wpAnyH_take (i := 7) (oi := { dst := some 61, op := Go.Op.build 30 #[(0, Go.Operand.tmp 56), (1, Go.Operand.tmp 59), (2, Go.Operand.tmp 60)], type := 30, pos := "ref.go:38", after := #[{ on := 2, ground := Go.Ground.data }, { on := 5, ground := Go.Ground.data }, { on := 6, ground := Go.Ground.data }], guard := none }) (v := ?v7_168) rfl (by kernel_rfl) (by kernel_rfl) (by kernel_rfl) (fun _ _ _ h => h) (Or.inl ⟨by rfl, ?hy7_168⟩) (by assumption) ?rest7_168
  case hy7_168 =>
    intro w' hSw
    try dsimp only at hSw
    go_simp
    try with_reducible rfl
  try simp only [Act.put, List.setIfInBounds_toArray, List.set_cons_zero, List.set_cons_succ]
  refine wpAnyH_ready (rs := [8]) (by kernel_rfl) (by simp) ?_
  refine AllReadyH.cons (o := { dst := some 4, op := Go.Op.alloc 30, type := 0, pos := "ref.go:38", after := #[], guard := none }) rfl (fun K hK => ?_) AllReadyH.nil
  go_simp
  refine hK.out _ _ ?_ (fun hHeld2 => ?_)
  · first | exact trivial | go_keep
  clear hHeld
  have hHeld := hHeld2
  clear hK K hHeld2
  try simp only [Act.put, List.setIfInBounds_toArray, List.set_cons_zero, List.set_cons_succ]
  refine wpAnyH_ready (rs := [9]) (by kernel_rfl) (by simp) ?_
  refine AllReadyH.cons (o := { dst := none, op := Go.Op.store 30 (Go.Operand.tmp 4) (Go.Operand.tmp 61), type := 0, pos := "ref.go:38", after := #[{ on := 8, ground := Go.Ground.data }, { on := 7, ground := Go.Ground.data }, { on := 0, ground := Go.Ground.phase }, { on := 1, ground := Go.Ground.phase }, { on := 2, ground := Go.Ground.phase }, { on := 3, ground := Go.Ground.phase }, { on := 4, ground := Go.Ground.phase }, { on := 5, ground := Go.Ground.phase }, { on := 6, ground := Go.Ground.phase }, { on := 7, ground := Go.Ground.phase }, { on := 8, ground := Go.Ground.phase }], guard := none }) rfl (fun K hK => ?_) AllReadyH.nil
  go_simp
  refine hK.out _ _ ?_ (fun hHeld2 => ?_)
  · first | exact trivial | go_keep
  clear hHeld
  have hHeld := hHeld2
  clear hK K hHeld2
  try simp only [Act.put, List.setIfInBounds_toArray, List.set_cons_zero, List.set_cons_succ]
  refine wpAnyH_done (by kernel_rfl) ?_ _
  refine abs_w (R := RI W bx #[.int .i64 x0, .int .i64 1, .int .i64 2, .int .i64 0, .int .i64 0, .int .i64 0, .int .i64 0, .int .i64 0, .int .i64 0, .int .i64 0, .bool false, .bool false, .int .i64 0, .int .i64 0]) ?_ (fun w2 I => ?_)
  · refine ⟨?_, ?_, HEB.out, ?_⟩
    · exact (blk_al HR.out (.cells #[.int .i64 x0, .int .i64 1, .int .i64 2, .int .i64 0, .int .i64 0, .int .i64 0, .int .i64 0, .int .i64 0, .int .i64 0, .int .i64 0, .bool false, .bool false, .int .i64 0, .int .i64 0] 30))
    · exact at_bx hbx
    · exact gb_trans (gb_trans HG.out (World.grownBy_alloc w1 (.cells #[.int .i64 x0, .int .i64 1, .int .i64 2, .int .i64 0, .int .i64 0, .int .i64 0, .int .i64 0, .int .i64 0, .int .i64 0, .int .i64 0, .bool false, .bool false, .int .i64 0, .int .i64 0] 30) none)) (gb_drew _ _)
  have a0 : w2.cell? ⟨bx, 0, none⟩ = some (.int .i64 x0) := blk_cell I.hd 0
  have a1 : w2.cell? ⟨bx, 1, none⟩ = some (.int .i64 1) := blk_cell I.hd 1
  have a2 : w2.cell? ⟨bx, 2, none⟩ = some (.int .i64 2) := blk_cell I.hd 2
  have a3 : w2.cell? ⟨bx, 3, none⟩ = some (.int .i64 0) := blk_cell I.hd 3
  have a4 : w2.cell? ⟨bx, 4, none⟩ = some (.int .i64 0) := blk_cell I.hd 4
  have a5 : w2.cell? ⟨bx, 5, none⟩ = some (.int .i64 0) := blk_cell I.hd 5
  have a6 : w2.cell? ⟨bx, 6, none⟩ = some (.int .i64 0) := blk_cell I.hd 6
  have a7 : w2.cell? ⟨bx, 7, none⟩ = some (.int .i64 0) := blk_cell I.hd 7
  have a8 : w2.cell? ⟨bx, 8, none⟩ = some (.int .i64 0) := blk_cell I.hd 8
  have a9 : w2.cell? ⟨bx, 9, none⟩ = some (.int .i64 0) := blk_cell I.hd 9
  have a10 : w2.cell? ⟨bx, 10, none⟩ = some (.bool false) := blk_cell I.hd 10
  have a11 : w2.cell? ⟨bx, 11, none⟩ = some (.bool false) := blk_cell I.hd 11
  have a12 : w2.cell? ⟨bx, 12, none⟩ = some (.int .i64 0) := blk_cell I.hd 12
  have a13 : w2.cell? ⟨bx, 13, none⟩ = some (.int .i64 0) := blk_cell I.hd 13
  have fa3 := blk_free I.hd 3
  have fa4 := blk_free I.hd 4
  have fa5 := blk_free I.hd 5
  have fa6 := blk_free I.hd 6
  have fa7 := blk_free I.hd 7
  have HRI := Lib.hid I
  have HRES := Lib.hid I.res
  have HGB := Lib.hid I.gb
  have hlx := blk_lt I.hd
  clear I
  go_upto_region 12 with fail
  refine wp_region_held_drew (S := fun _ => True) (by kernel_rfl) ?_ (fun hHeld => ?_)
  · first | exact trivial | go_keep
  refine wpAnyH_take (i := 0) (oi := { dst := some 65, op := Go.Op.move (Go.Operand.tmp 0), type := 9, pos := "ref.go:40", after := #[], guard := none }) (v := ?v0_169) rfl (by kernel_rfl) (by kernel_rfl) (by kernel_rfl) (fun _ _ _ h => h) (Or.inl ⟨by rfl, ?hy0_169⟩) (by assumption) ?rest0_169
  case hy0_169 =>
    intro w' hSw
    try dsimp only at hSw
    go_simp
    try with_reducible rfl
  try simp only [Act.put, List.setIfInBounds_toArray, List.set_cons_zero, List.set_cons_succ]
  refine wpAnyH_take (i := 1) (oi := { dst := some 66, op := Go.Op.slice 9 (Go.Operand.tmp 65) (some (Go.Operand.const (Go.Value.int Go.IntKind.i64 3))) (some (Go.Operand.const (Go.Value.int Go.IntKind.i64 5))) none, type := 9, pos := "ref.go:40", after := #[{ on := 0, ground := Go.Ground.data }], guard := none }) (v := ?v1_170) rfl (by kernel_rfl) (by kernel_rfl) (by kernel_rfl) (fun _ _ _ h => h) (Or.inl ⟨by rfl, ?hy1_170⟩) (by assumption) ?rest1_170
  case hy1_170 =>
    intro w' hSw
    try dsimp only at hSw
    go_simp
    try with_reducible rfl
  try simp only [Act.put, List.setIfInBounds_toArray, List.set_cons_zero, List.set_cons_succ]
  refine wpAnyH_take (i := 3) (oi := { dst := some 68, op := Go.Op.move (Go.Operand.tmp 0), type := 9, pos := "ref.go:40", after := #[], guard := none }) (v := ?v3_171) rfl (by kernel_rfl) (by kernel_rfl) (by kernel_rfl) (fun _ _ _ h => h) (Or.inl ⟨by rfl, ?hy3_171⟩) (by assumption) ?rest3_171
  case hy3_171 =>
    intro w' hSw
    try dsimp only at hSw
    go_simp
    try with_reducible rfl
  try simp only [Act.put, List.setIfInBounds_toArray, List.set_cons_zero, List.set_cons_succ]
  refine wpAnyH_take (i := 4) (oi := { dst := some 69, op := Go.Op.slice 9 (Go.Operand.tmp 68) (some (Go.Operand.const (Go.Value.int Go.IntKind.i64 5))) (some (Go.Operand.const (Go.Value.int Go.IntKind.i64 7))) none, type := 9, pos := "ref.go:40", after := #[{ on := 3, ground := Go.Ground.data }], guard := none }) (v := ?v4_172) rfl (by kernel_rfl) (by kernel_rfl) (by kernel_rfl) (fun _ _ _ h => h) (Or.inl ⟨by rfl, ?hy4_172⟩) (by assumption) ?rest4_172
  case hy4_172 =>
    intro w' hSw
    try dsimp only at hSw
    go_simp
    try with_reducible rfl
  try simp only [Act.put, List.setIfInBounds_toArray, List.set_cons_zero, List.set_cons_succ]
  refine wpAnyH_take (i := 6) (oi := { dst := some 71, op := Go.Op.move (Go.Operand.tmp 0), type := 9, pos := "ref.go:40", after := #[{ on := 12, ground := Go.Ground.gcOnly Go.Departure.lateStores }], guard := none }) (v := ?v6_173) rfl (by kernel_rfl) (by kernel_rfl) (by kernel_rfl) (fun _ _ _ h => h) (Or.inl ⟨by rfl, ?hy6_173⟩) (by assumption) ?rest6_173
  case hy6_173 =>
    intro w' hSw
    try dsimp only at hSw
    go_simp
    try with_reducible rfl
  try simp only [Act.put, List.setIfInBounds_toArray, List.set_cons_zero, List.set_cons_succ]
  refine wpAnyH_take (i := 7) (oi := { dst := some 72, op := Go.Op.index 9 (Go.Operand.tmp 71) (Go.Operand.const (Go.Value.int Go.IntKind.i64 7)), type := 5, pos := "ref.go:40", after := #[{ on := 6, ground := Go.Ground.data }, { on := 12, ground := Go.Ground.gcOnly Go.Departure.lateStores }], guard := none }) (v := ?v7_174) rfl (by kernel_rfl) (by kernel_rfl) (by kernel_rfl) (fun _ _ _ h => h) (Or.inl ⟨by rfl, ?hy7_174⟩) (by assumption) ?rest7_174
  case hy7_174 =>
    intro w' hSw
    try dsimp only at hSw
    go_simp
    try with_reducible rfl
  try simp only [Act.put, List.setIfInBounds_toArray, List.set_cons_zero, List.set_cons_succ]
  refine wpAnyH_take (i := 8) (oi := { dst := some 73, op := Go.Op.convert 5 3 (Go.Operand.tmp 72), type := 3, pos := "ref.go:40", after := #[{ on := 7, ground := Go.Ground.data }, { on := 12, ground := Go.Ground.gcOnly Go.Departure.lateStores }], guard := none }) (v := ?v8_175) rfl (by kernel_rfl) (by kernel_rfl) (by kernel_rfl) (fun _ _ _ h => h) (Or.inl ⟨by rfl, ?hy8_175⟩) (by assumption) ?rest8_175
  case hy8_175 =>
    intro w' hSw
    try dsimp only at hSw
    go_simp
    try with_reducible rfl
  try simp only [Act.put, List.setIfInBounds_toArray, List.set_cons_zero, List.set_cons_succ]
  refine wpAnyH_ready (rs := [2]) (by kernel_rfl) (by simp) ?_
  refine AllReadyH.cons (o := { dst := some 67, op := Go.Op.call { callee := Go.Callee.value (Go.Operand.func 16), args := #[Go.Operand.tmp 66], argTypes := #[9] }, type := 3, pos := "ref.go:40", after := #[{ on := 1, ground := Go.Ground.data }], guard := none }) rfl (fun K hK => ?_) AllReadyH.nil
  go_simp
  refine (KLA.out _).mono ?_
  rintro e w' ⟨rfl, rfl⟩
  try go_wp2_with fail
  refine hK.out _ _ ?_ (fun hHeld2 => ?_)
  · first | exact trivial | go_keep
  clear hHeld
  have hHeld := hHeld2
  clear hK K hHeld2
  try simp only [Act.put, List.setIfInBounds_toArray, List.set_cons_zero, List.set_cons_succ]
  refine wpAnyH_take (i := 9) (oi := { dst := some 74, op := Go.Op.fieldAddr 30 (Go.Operand.tmp 4) 3, type := 0, pos := "ref.go:40", after := #[{ on := 0, ground := Go.Ground.phase }, { on := 1, ground := Go.Ground.phase }, { on := 2, ground := Go.Ground.phase }, { on := 3, ground := Go.Ground.textOnly Go.Departure.lateStores }, { on := 4, ground := Go.Ground.textOnly Go.Departure.lateStoresUnsure }, { on := 5, ground := Go.Ground.textOnly Go.Departure.lateStoresUnsure }, { on := 6, ground := Go.Ground.textOnly Go.Departure.lateStores }, { on := 7, ground := Go.Ground.textOnly Go.Departure.lateStores }, { on := 8, ground := Go.Ground.textOnly Go.Departure.lateStores }], guard := none }) (v := ?v9_176) rfl (by kernel_rfl) (by kernel_rfl) (by kernel_rfl) (fun _ _ _ h => h) (Or.inl ⟨by rfl, ?hy9_176⟩) (by assumption) ?rest9_176
  case hy9_176 =>
    intro w' hSw
    try dsimp only at hSw
    go_simp
    try with_reducible rfl
  try simp only [Act.put, List.setIfInBounds_toArray, List.set_cons_zero, List.set_cons_succ]
  refine wpAnyH_ready (rs := [5]) (by kernel_rfl) (by simp) ?_
  refine AllReadyH.cons (o := { dst := some 70, op := Go.Op.call { callee := Go.Callee.value (Go.Operand.func 16), args := #[Go.Operand.tmp 69], argTypes := #[9] }, type := 3, pos := "ref.go:40", after := #[{ on := 4, ground := Go.Ground.data }, { on := 2, ground := Go.Ground.chain }], guard := none }) rfl (fun K hK => ?_) AllReadyH.nil
  go_simp
  refine (KLB.out _).mono ?_
  rintro e w' ⟨rfl, rfl⟩
  try go_wp2_with fail
  refine hK.out _ _ ?_ (fun hHeld2 => ?_)
  · first | exact trivial | go_keep
  clear hHeld
  have hHeld := hHeld2
  clear hK K hHeld2
  try simp only [Act.put, List.setIfInBounds_toArray, List.set_cons_zero, List.set_cons_succ]
  refine wpAnyH_ready (rs := [10]) (by kernel_rfl) (by simp) ?_
  refine AllReadyH.cons (o := { dst := none, op := Go.Op.store 3 (Go.Operand.tmp 74) (Go.Operand.tmp 67), type := 0, pos := "ref.go:40", after := #[{ on := 9, ground := Go.Ground.data }, { on := 2, ground := Go.Ground.data }, { on := 5, ground := Go.Ground.chain }, { on := 0, ground := Go.Ground.phase }, { on := 1, ground := Go.Ground.phase }, { on := 2, ground := Go.Ground.phase }, { on := 3, ground := Go.Ground.textOnly Go.Departure.lateStores }, { on := 4, ground := Go.Ground.textOnly Go.Departure.lateStoresUnsure }, { on := 5, ground := Go.Ground.textOnly Go.Departure.lateStoresUnsure }, { on := 6, ground := Go.Ground.textOnly Go.Departure.lateStores }, { on := 7, ground := Go.Ground.textOnly Go.Departure.lateStores }, { on := 8, ground := Go.Ground.textOnly Go.Departure.lateStores }], guard := none }) rfl (fun K hK => ?_) AllReadyH.nil
  go_simp
  refine hK.out _ _ ?_ (fun hHeld2 => ?_)
  · first | exact trivial | go_keep
  clear hHeld
  have hHeld := hHeld2
  clear hK K hHeld2
  try simp only [Act.put, List.setIfInBounds_toArray, List.set_cons_zero, List.set_cons_succ]
  refine wpAnyH_take (i := 11) (oi := { dst := some 75, op := Go.Op.fieldAddr 30 (Go.Operand.tmp 4) 4, type := 0, pos := "ref.go:40", after := #[{ on := 0, ground := Go.Ground.phase }, { on := 1, ground := Go.Ground.phase }, { on := 2, ground := Go.Ground.phase }, { on := 3, ground := Go.Ground.phase }, { on := 4, ground := Go.Ground.phase }, { on := 5, ground := Go.Ground.phase }, { on := 6, ground := Go.Ground.textOnly Go.Departure.lateStores }, { on := 7, ground := Go.Ground.textOnly Go.Departure.lateStores }, { on := 8, ground := Go.Ground.textOnly Go.Departure.lateStores }, { on := 9, ground := Go.Ground.phase }, { on := 10, ground := Go.Ground.phase }], guard := none }) (v := ?v11_177) rfl (by kernel_rfl) (by kernel_rfl) (by kernel_rfl) (fun _ _ _ h => h) (Or.inl ⟨by rfl, ?hy11_177⟩) (by assumption) ?rest11_177
  case hy11_177 =>
    intro w' hSw
    try dsimp only at hSw
    go_simp
    try with_reducible rfl
  try simp only [Act.put, List.setIfInBounds_toArray, List.set_cons_zero, List.set_cons_succ]
  refine wpAnyH_ready (rs := [12]) (by kernel_rfl) (by simp) ?_
  refine AllReadyH.cons (o := { dst := none, op := Go.Op.store 3 (Go.Operand.tmp 75) (Go.Operand.tmp 70), type := 0, pos := "ref.go:40", after := #[{ on := 11, ground := Go.Ground.data }, { on := 5, ground := Go.Ground.data }, { on := 10, ground := Go.Ground.chain }, { on := 0, ground := Go.Ground.phase }, { on := 1, ground := Go.Ground.phase }, { on := 2, ground := Go.Ground.phase }, { on := 3, ground := Go.Ground.phase }, { on := 4, ground := Go.Ground.phase }, { on := 5, ground := Go.Ground.phase }, { on := 6, ground := Go.Ground.textOnly Go.Departure.lateStores }, { on := 7, ground := Go.Ground.textOnly Go.Departure.lateStores }, { on := 8, ground := Go.Ground.textOnly Go.Departure.lateStores }, { on := 9, ground := Go.Ground.phase }, { on := 10, ground := Go.Ground.phase }], guard := none }) rfl (fun K hK => ?_) AllReadyH.nil
  go_simp
  refine hK.out _ _ ?_ (fun hHeld2 => ?_)
  · first | exact trivial | go_keep
  clear hHeld
  have hHeld := hHeld2
  clear hK K hHeld2
  try simp only [Act.put, List.setIfInBounds_toArray, List.set_cons_zero, List.set_cons_succ]
  refine wpAnyH_take (i := 13) (oi := { dst := some 76, op := Go.Op.fieldAddr 30 (Go.Operand.tmp 4) 5, type := 0, pos := "ref.go:40", after := #[{ on := 0, ground := Go.Ground.phase }, { on := 1, ground := Go.Ground.phase }, { on := 2, ground := Go.Ground.phase }, { on := 3, ground := Go.Ground.phase }, { on := 4, ground := Go.Ground.phase }, { on := 5, ground := Go.Ground.phase }, { on := 6, ground := Go.Ground.phase }, { on := 7, ground := Go.Ground.phase }, { on := 8, ground := Go.Ground.phase }, { on := 9, ground := Go.Ground.phase }, { on := 10, ground := Go.Ground.phase }, { on := 11, ground := Go.Ground.phase }, { on := 12, ground := Go.Ground.phase }], guard := none }) (v := ?v13_178) rfl (by kernel_rfl) (by kernel_rfl) (by kernel_rfl) (fun _ _ _ h => h) (Or.inl ⟨by rfl, ?hy13_178⟩) (by assumption) ?rest13_178
  case hy13_178 =>
    intro w' hSw
    try dsimp only at hSw
    go_simp
    try with_reducible rfl
  try simp only [Act.put, List.setIfInBounds_toArray, List.set_cons_zero, List.set_cons_succ]
  refine wpAnyH_ready (rs := [14]) (by kernel_rfl) (by simp) ?_
  refine AllReadyH.cons (o := { dst := none, op := Go.Op.store 3 (Go.Operand.tmp 76) (Go.Operand.tmp 73), type := 0, pos := "ref.go:40", after := #[{ on := 13, ground := Go.Ground.data }, { on := 8, ground := Go.Ground.data }, { on := 12, ground := Go.Ground.chain }, { on := 0, ground := Go.Ground.phase }, { on := 1, ground := Go.Ground.phase }, { on := 2, ground := Go.Ground.phase }, { on := 3, ground := Go.Ground.phase }, { on := 4, ground := Go.Ground.phase }, { on := 5, ground := Go.Ground.phase }, { on := 6, ground := Go.Ground.phase }, { on := 7, ground := Go.Ground.phase }, { on := 8, ground := Go.Ground.phase }, { on := 9, ground := Go.Ground.phase }, { on := 10, ground := Go.Ground.phase }, { on := 11, ground := Go.Ground.phase }, { on := 12, ground := Go.Ground.phase }], guard := none }) rfl (fun K hK => ?_) AllReadyH.nil
  go_simp
  refine hK.out _ _ ?_ (fun hHeld2 => ?_)
  · first | exact trivial | go_keep
  clear hHeld
  have hHeld := hHeld2
  clear hK K hHeld2
  try simp only [Act.put, List.setIfInBounds_toArray, List.set_cons_zero, List.set_cons_succ]
  refine wpAnyH_done (by kernel_rfl) ?_ _
  refine abs_w (R := RI W bx #[.int .i64 x0, .int .i64 1, .int .i64 2, .int .i64 A, .int .i64 B, .int .i64 x7, .int .i64 0, .int .i64 0, .int .i64 0, .int .i64 0, .bool false, .bool false, .int .i64 0, .int .i64 0]) ?_ (fun w3 I => ?_)
  · refine ⟨?_, ?_, HEB.out, ?_⟩
    · exact blk_other (blk_other (blk_other HRES.out HNE.out) HNE.out) HNE.out
    · exact blk_set (blk_set (blk_set HRI.out.hd 3 (.int .i64 A)) 4 (.int .i64 B)) 5 (.int .i64 x7)
    · exact gb_trans (gb_own (gb_own (gb_own HGB.out HLE.out (gb_set _ _ _ _)) HLE.out (gb_set _ _ _ _)) HLE.out (gb_set _ _ _ _)) (gb_drew _ _)
  clear a0 a1 a2 a3 a4 a5 a6 a7 a8 a9 a10 a11 a12 a13
  clear fa3 fa4 fa5 fa6 fa7 HRI HRES HGB hlx
  have a0 : w3.cell? ⟨bx, 0, none⟩ = some (.int .i64 x0) := blk_cell I.hd 0
  have a1 : w3.cell? ⟨bx, 1, none⟩ = some (.int .i64 1) := blk_cell I.hd 1
  have a2 : w3.cell? ⟨bx, 2, none⟩ = some (.int .i64 2) := blk_cell I.hd 2
  have a3 : w3.cell? ⟨bx, 3, none⟩ = some (.int .i64 A) := blk_cell I.hd 3
  have a4 : w3.cell? ⟨bx, 4, none⟩ = some (.int .i64 B) := blk_cell I.hd 4
  have a5 : w3.cell? ⟨bx, 5, none⟩ = some (.int .i64 x7) := blk_cell I.hd 5
  have a6 : w3.cell? ⟨bx, 6, none⟩ = some (.int .i64 0) := blk_cell I.hd 6
  have a7 : w3.cell? ⟨bx, 7, none⟩ = some (.int .i64 0) := blk_cell I.hd 7
  have a8 : w3.cell? ⟨bx, 8, none⟩ = some (.int .i64 0) := blk_cell I.hd 8
  have a9 : w3.cell? ⟨bx, 9, none⟩ = some (.int .i64 0) := blk_cell I.hd 9
  have a10 : w3.cell? ⟨bx, 10, none⟩ = some (.bool false) := blk_cell I.hd 10
  have a11 : w3.cell? ⟨bx, 11, none⟩ = some (.bool false) := blk_cell I.hd 11
  have a12 : w3.cell? ⟨bx, 12, none⟩ = some (.int .i64 0) := blk_cell I.hd 12
  have a13 : w3.cell? ⟨bx, 13, none⟩ = some (.int .i64 0) := blk_cell I.hd 13
  have fa6 := blk_free I.hd 6
  have fa7 := blk_free I.hd 7
  have HRI := Lib.hid I
  have HRES := Lib.hid I.res
  have HGB := Lib.hid I.gb
  have hlx := blk_lt I.hd
  clear I
  go_upto_region 13 with fail
  have KC7 := Lib.hid (fun u => rcolor_calls x7 u)
  have hck : ck s 3 = false := HC.out.no 3 (by omega)
  have hc7 : colB x7 = true := by have h := hck; simp only [ck, HMP.out, HX7.out] at h; simpa using h
  rw [hc7] at KC7
  clear hck hc7
  go_wp2_with fail
  refine (KC7.out _).mono ?_
  rintro e w' ⟨rfl, rfl⟩
  go_upto_region 15 with fail
  have hck : ck s 4 = false := HC.out.no 4 (by omega)
  have d4 : ((B : Int) == 0) = false := by have h := hck; simp only [ck, HMP.out, HB.out] at h; rw [beq_eq_false_iff_ne]; simp at h; omega
  clear hck
  go_upto_region 17 with fail
  refine wp_region_held_drew (S := fun _ => True) (by kernel_rfl) ?_ (fun hHeld => ?_)
  · first | exact trivial | go_keep
  refine wpAnyH_take (i := 0) (oi := { dst := some 86, op := Go.Op.move (Go.Operand.tmp 0), type := 9, pos := "ref.go:48", after := #[], guard := none }) (v := ?v0_179) rfl (by kernel_rfl) (by kernel_rfl) (by kernel_rfl) (fun _ _ _ h => h) (Or.inl ⟨by rfl, ?hy0_179⟩) (by assumption) ?rest0_179
  case hy0_179 =>
    intro w' hSw
    try dsimp only at hSw
    go_simp
    try with_reducible rfl
  try simp only [Act.put, List.setIfInBounds_toArray, List.set_cons_zero, List.set_cons_succ]
  refine wpAnyH_take (i := 1) (oi := { dst := some 87, op := Go.Op.slice 9 (Go.Operand.tmp 86) (some (Go.Operand.const (Go.Value.int Go.IntKind.i64 12))) (some (Go.Operand.const (Go.Value.int Go.IntKind.i64 14))) none, type := 9, pos := "ref.go:48", after := #[{ on := 0, ground := Go.Ground.data }], guard := none }) (v := ?v1_180) rfl (by kernel_rfl) (by kernel_rfl) (by kernel_rfl) (fun _ _ _ h => h) (Or.inl ⟨by rfl, ?hy1_180⟩) (by assumption) ?rest1_180
  case hy1_180 =>
    intro w' hSw
    try dsimp only at hSw
    go_simp
    try with_reducible rfl
  try simp only [Act.put, List.setIfInBounds_toArray, List.set_cons_zero, List.set_cons_succ]
  refine wpAnyH_take (i := 3) (oi := { dst := some 89, op := Go.Op.move (Go.Operand.tmp 0), type := 9, pos := "ref.go:48", after := #[], guard := none }) (v := ?v3_181) rfl (by kernel_rfl) (by kernel_rfl) (by kernel_rfl) (fun _ _ _ h => h) (Or.inl ⟨by rfl, ?hy3_181⟩) (by assumption) ?rest3_181
  case hy3_181 =>
    intro w' hSw
    try dsimp only at hSw
    go_simp
    try with_reducible rfl
  try simp only [Act.put, List.setIfInBounds_toArray, List.set_cons_zero, List.set_cons_succ]
  refine wpAnyH_take (i := 4) (oi := { dst := some 90, op := Go.Op.slice 9 (Go.Operand.tmp 89) (some (Go.Operand.const (Go.Value.int Go.IntKind.i64 14))) (some (Go.Operand.const (Go.Value.int Go.IntKind.i64 16))) none, type := 9, pos := "ref.go:48", after := #[{ on := 3, ground := Go.Ground.data }], guard := none }) (v := ?v4_182) rfl (by kernel_rfl) (by kernel_rfl) (by kernel_rfl) (fun _ _ _ h => h) (Or.inl ⟨by rfl, ?hy4_182⟩) (by assumption) ?rest4_182
  case hy4_182 =>
    intro w' hSw
    try dsimp only at hSw
    go_simp
    try with_reducible rfl
  try simp only [Act.put, List.setIfInBounds_toArray, List.set_cons_zero, List.set_cons_succ]
  refine wpAnyH_ready (rs := [2]) (by kernel_rfl) (by simp) ?_
  refine AllReadyH.cons (o := { dst := some 88, op := Go.Op.call { callee := Go.Callee.value (Go.Operand.func 16), args := #[Go.Operand.tmp 87], argTypes := #[9] }, type := 3, pos := "ref.go:48", after := #[{ on := 1, ground := Go.Ground.data }], guard := none }) rfl (fun K hK => ?_) AllReadyH.nil
  go_simp
  refine (KLX.out _).mono ?_
  rintro e w' ⟨rfl, rfl⟩
  try go_wp2_with fail
  refine hK.out _ _ ?_ (fun hHeld2 => ?_)
  · first | exact trivial | go_keep
  clear hHeld
  have hHeld := hHeld2
  clear hK K hHeld2
  try simp only [Act.put, List.setIfInBounds_toArray, List.set_cons_zero, List.set_cons_succ]
  refine wpAnyH_take (i := 6) (oi := { dst := some 92, op := Go.Op.fieldAddr 30 (Go.Operand.tmp 4) 6, type := 0, pos := "ref.go:48", after := #[{ on := 0, ground := Go.Ground.phase }, { on := 1, ground := Go.Ground.phase }, { on := 2, ground := Go.Ground.phase }, { on := 3, ground := Go.Ground.textOnly Go.Departure.lateStores }, { on := 4, ground := Go.Ground.textOnly Go.Departure.lateStoresUnsure }, { on := 5, ground := Go.Ground.textOnly Go.Departure.lateStoresUnsure }], guard := none }) (v := ?v6_183) rfl (by kernel_rfl) (by kernel_rfl) (by kernel_rfl) (fun _ _ _ h => h) (Or.inl ⟨by rfl, ?hy6_183⟩) (by assumption) ?rest6_183
  case hy6_183 =>
    intro w' hSw
    try dsimp only at hSw
    go_simp
    try with_reducible rfl
  try simp only [Act.put, List.setIfInBounds_toArray, List.set_cons_zero, List.set_cons_succ]
  refine wpAnyH_ready (rs := [5]) (by kernel_rfl) (by simp) ?_
  refine AllReadyH.cons (o := { dst := some 91, op := Go.Op.call { callee := Go.Callee.value (Go.Operand.func 16), args := #[Go.Operand.tmp 90], argTypes := #[9] }, type := 3, pos := "ref.go:48", after := #[{ on := 4, ground := Go.Ground.data }, { on := 2, ground := Go.Ground.chain }], guard := none }) rfl (fun K hK => ?_) AllReadyH.nil
  go_simp
  refine (KLY.out _).mono ?_
  rintro e w' ⟨rfl, rfl⟩
  try go_wp2_with fail
  refine hK.out _ _ ?_ (fun hHeld2 => ?_)
  · first | exact trivial | go_keep
  clear hHeld
  have hHeld := hHeld2
  clear hK K hHeld2
  try simp only [Act.put, List.setIfInBounds_toArray, List.set_cons_zero, List.set_cons_succ]
  refine wpAnyH_ready (rs := [7]) (by kernel_rfl) (by simp) ?_
  refine AllReadyH.cons (o := { dst := none, op := Go.Op.store 3 (Go.Operand.tmp 92) (Go.Operand.tmp 88), type := 0, pos := "ref.go:48", after := #[{ on := 6, ground := Go.Ground.data }, { on := 2, ground := Go.Ground.data }, { on := 5, ground := Go.Ground.chain }, { on := 0, ground := Go.Ground.phase }, { on := 1, ground := Go.Ground.phase }, { on := 2, ground := Go.Ground.phase }, { on := 3, ground := Go.Ground.textOnly Go.Departure.lateStores }, { on := 4, ground := Go.Ground.textOnly Go.Departure.lateStoresUnsure }, { on := 5, ground := Go.Ground.textOnly Go.Departure.lateStoresUnsure }], guard := none }) rfl (fun K hK => ?_) AllReadyH.nil
  go_simp
  refine hK.out _ _ ?_ (fun hHeld2 => ?_)
  · first | exact trivial | go_keep
  clear hHeld
  have hHeld := hHeld2
  clear hK K hHeld2
  try simp only [Act.put, List.setIfInBounds_toArray, List.set_cons_zero, List.set_cons_succ]
  refine wpAnyH_take (i := 8) (oi := { dst := some 93, op := Go.Op.fieldAddr 30 (Go.Operand.tmp 4) 7, type := 0, pos := "ref.go:48", after := #[{ on := 0, ground := Go.Ground.phase }, { on := 1, ground := Go.Ground.phase }, { on := 2, ground := Go.Ground.phase }, { on := 3, ground := Go.Ground.phase }, { on := 4, ground := Go.Ground.phase }, { on := 5, ground := Go.Ground.phase }, { on := 6, ground := Go.Ground.phase }, { on := 7, ground := Go.Ground.phase }], guard := none }) (v := ?v8_184) rfl (by kernel_rfl) (by kernel_rfl) (by kernel_rfl) (fun _ _ _ h => h) (Or.inl ⟨by rfl, ?hy8_184⟩) (by assumption) ?rest8_184
  case hy8_184 =>
    intro w' hSw
    try dsimp only at hSw
    go_simp
    try with_reducible rfl
  try simp only [Act.put, List.setIfInBounds_toArray, List.set_cons_zero, List.set_cons_succ]
  refine wpAnyH_ready (rs := [9]) (by kernel_rfl) (by simp) ?_
  refine AllReadyH.cons (o := { dst := none, op := Go.Op.store 3 (Go.Operand.tmp 93) (Go.Operand.tmp 91), type := 0, pos := "ref.go:48", after := #[{ on := 8, ground := Go.Ground.data }, { on := 5, ground := Go.Ground.data }, { on := 7, ground := Go.Ground.chain }, { on := 0, ground := Go.Ground.phase }, { on := 1, ground := Go.Ground.phase }, { on := 2, ground := Go.Ground.phase }, { on := 3, ground := Go.Ground.phase }, { on := 4, ground := Go.Ground.phase }, { on := 5, ground := Go.Ground.phase }, { on := 6, ground := Go.Ground.phase }, { on := 7, ground := Go.Ground.phase }], guard := none }) rfl (fun K hK => ?_) AllReadyH.nil
  go_simp
  refine hK.out _ _ ?_ (fun hHeld2 => ?_)
  · first | exact trivial | go_keep
  clear hHeld
  have hHeld := hHeld2
  clear hK K hHeld2
  try simp only [Act.put, List.setIfInBounds_toArray, List.set_cons_zero, List.set_cons_succ]
  refine wpAnyH_done (by kernel_rfl) ?_ _
  refine abs_w (R := RI W bx #[.int .i64 x0, .int .i64 1, .int .i64 2, .int .i64 A, .int .i64 B, .int .i64 x7, .int .i64 X, .int .i64 Y, .int .i64 0, .int .i64 0, .bool false, .bool false, .int .i64 0, .int .i64 0]) ?_ (fun w4 I => ?_)
  · refine ⟨?_, ?_, HEB.out, ?_⟩
    · exact blk_other (blk_other HRES.out HNE.out) HNE.out
    · exact blk_set (blk_set HRI.out.hd 6 (.int .i64 X)) 7 (.int .i64 Y)
    · exact gb_trans (gb_own (gb_own HGB.out HLE.out (gb_set _ _ _ _)) HLE.out (gb_set _ _ _ _)) (gb_drew _ _)
  clear a0 a1 a2 a3 a4 a5 a6 a7 a8 a9 a10 a11 a12 a13
  clear fa6 fa7 HRI HRES HGB hlx d4
  have a0 : w4.cell? ⟨bx, 0, none⟩ = some (.int .i64 x0) := blk_cell I.hd 0
  have a1 : w4.cell? ⟨bx, 1, none⟩ = some (.int .i64 1) := blk_cell I.hd 1
  have a2 : w4.cell? ⟨bx, 2, none⟩ = some (.int .i64 2) := blk_cell I.hd 2
  have a3 : w4.cell? ⟨bx, 3, none⟩ = some (.int .i64 A) := blk_cell I.hd 3
  have a4 : w4.cell? ⟨bx, 4, none⟩ = some (.int .i64 B) := blk_cell I.hd 4
  have a5 : w4.cell? ⟨bx, 5, none⟩ = some (.int .i64 x7) := blk_cell I.hd 5
  have a6 : w4.cell? ⟨bx, 6, none⟩ = some (.int .i64 X) := blk_cell I.hd 6
  have a7 : w4.cell? ⟨bx, 7, none⟩ = some (.int .i64 Y) := blk_cell I.hd 7
  have a8 : w4.cell? ⟨bx, 8, none⟩ = some (.int .i64 0) := blk_cell I.hd 8
  have a9 : w4.cell? ⟨bx, 9, none⟩ = some (.int .i64 0) := blk_cell I.hd 9
  have a10 : w4.cell? ⟨bx, 10, none⟩ = some (.bool false) := blk_cell I.hd 10
  have a11 : w4.cell? ⟨bx, 11, none⟩ = some (.bool false) := blk_cell I.hd 11
  have a12 : w4.cell? ⟨bx, 12, none⟩ = some (.int .i64 0) := blk_cell I.hd 12
  have a13 : w4.cell? ⟨bx, 13, none⟩ = some (.int .i64 0) := blk_cell I.hd 13
  have fa8 := blk_free I.hd 8
  have HRI := Lib.hid I
  have HRES := Lib.hid I.res
  have HGB := Lib.hid I.gb
  have hlx := blk_lt I.hd
  clear I
  go_upto_region 18 with fail
  have hck : ck s 5 = false := HC.out.no 5 (by omega)
  have d5 : ((X : Int) == 0) = false := by have h := hck; simp only [ck, HX.out] at h; rw [beq_eq_false_iff_ne]; simp at h; omega
  clear hck
  go_upto_region 20 with fail
  have hck : ck s 6 = false := HC.out.no 6 (by omega)
  have d6 : ¬ (16384 : Int) < X := by have h := hck; simp only [ck, HX.out] at h; simp at h; omega
  clear hck
  go_upto_region 22 with fail
  have hck : ck s 7 = false := HC.out.no 7 (by omega)
  have d7 : ((Y : Int) == 0) = false := by have h := hck; simp only [ck, HY.out] at h; rw [beq_eq_false_iff_ne]; simp at h; omega
  clear hck
  go_upto_region 24 with fail
  have hck : ck s 8 = false := HC.out.no 8 (by omega)
  have d8 : ¬ (16384 : Int) < Y := by have h := hck; simp only [ck, HY.out] at h; simp at h; omega
  clear hck
  go_upto_region 27 with fail
  clear d5 d6 d7 d8
  refine abs_w (R := RI W bx #[.int .i64 x0, .int .i64 1, .int .i64 2, .int .i64 A, .int .i64 B, .int .i64 x7, .int .i64 X, .int .i64 Y, .int .i64 32, .int .i64 0, .bool false, .bool false, .int .i64 0, .int .i64 0]) ?_ (fun w5 I => ?_)
  · refine ⟨?_, ?_, HEB.out, ?_⟩
    · exact blk_other HRES.out HNE.out
    · exact blk_set HRI.out.hd 8 (.int .i64 32)
    · exact gb_own HGB.out HLE.out (gb_set _ _ _ _)
  clear a0 a1 a2 a3 a4 a5 a6 a7 a8 a9 a10 a11 a12 a13
  clear fa8 HRI HRES HGB hlx
  have a0 : w5.cell? ⟨bx, 0, none⟩ = some (.int .i64 x0) := blk_cell I.hd 0
  have a1 : w5.cell? ⟨bx, 1, none⟩ = some (.int .i64 1) := blk_cell I.hd 1
  have a2 : w5.cell? ⟨bx, 2, none⟩ = some (.int .i64 2) := blk_cell I.hd 2
  have a3 : w5.cell? ⟨bx, 3, none⟩ = some (.int .i64 A) := blk_cell I.hd 3
  have a4 : w5.cell? ⟨bx, 4, none⟩ = some (.int .i64 B) := blk_cell I.hd 4
  have a5 : w5.cell? ⟨bx, 5, none⟩ = some (.int .i64 x7) := blk_cell I.hd 5
  have a6 : w5.cell? ⟨bx, 6, none⟩ = some (.int .i64 X) := blk_cell I.hd 6
  have a7 : w5.cell? ⟨bx, 7, none⟩ = some (.int .i64 Y) := blk_cell I.hd 7
  have a8 : w5.cell? ⟨bx, 8, none⟩ = some (.int .i64 32) := blk_cell I.hd 8
  have a9 : w5.cell? ⟨bx, 9, none⟩ = some (.int .i64 0) := blk_cell I.hd 9
  have a10 : w5.cell? ⟨bx, 10, none⟩ = some (.bool false) := blk_cell I.hd 10
  have a11 : w5.cell? ⟨bx, 11, none⟩ = some (.bool false) := blk_cell I.hd 11
  have a12 : w5.cell? ⟨bx, 12, none⟩ = some (.int .i64 0) := blk_cell I.hd 12
  have a13 : w5.cell? ⟨bx, 13, none⟩ = some (.int .i64 0) := blk_cell I.hd 13
  have fa9 := blk_free I.hd 9
  have HRI := Lib.hid I
  have HRES := Lib.hid I.res
  have HGB := Lib.hid I.gb
  have hlx := blk_lt I.hd
  clear I
  have KC16 := fun u => rcolor_calls 32 u
  have hcol : colB 32 = true := by
    have h : (!(dpB (bn s 16) (bn s 2))) = false := HC.out.no 9 (by omega)
    rw [HX16.out, HX2.out] at h
    have e : dpB 32 2 = colB 32 := by unfold dpB pln; rfl
    rw [e] at h
    simpa using h
  simp only [hcol] at KC16
  have KC16 := Lib.hid KC16
  clear hcol
  go_wp2_with fail
  refine (KC16.out _).mono ?_
  rintro e w' ⟨rfl, rfl⟩
  go_upto_region 30 with fail
  have hck : ck s 10 = false := HC.out.no 10 (by omega)
  have d10 : ¬ (64 : Int) ≤ x17 := by have h := hck; simp only [ck, HX17.out] at h; simp at h; omega
  clear hck
  go_upto_region 33 with fail
  clear d10
  refine abs_w (R := RI W bx #[.int .i64 x0, .int .i64 1, .int .i64 2, .int .i64 A, .int .i64 B, .int .i64 x7, .int .i64 X, .int .i64 Y, .int .i64 32, .int .i64 8, .bool false, .bool false, .int .i64 0, .int .i64 0]) ?_ (fun w6 I => ?_)
  · refine ⟨?_, ?_, HEB.out, ?_⟩
    · exact blk_other HRES.out HNE.out
    · exact blk_set HRI.out.hd 9 (.int .i64 8)
    · exact gb_own HGB.out HLE.out (gb_set _ _ _ _)
  clear a0 a1 a2 a3 a4 a5 a6 a7 a8 a9 a10 a11 a12 a13
  clear fa9 HRI HRES HGB hlx
  have a0 : w6.cell? ⟨bx, 0, none⟩ = some (.int .i64 x0) := blk_cell I.hd 0
  have a1 : w6.cell? ⟨bx, 1, none⟩ = some (.int .i64 1) := blk_cell I.hd 1
  have a2 : w6.cell? ⟨bx, 2, none⟩ = some (.int .i64 2) := blk_cell I.hd 2
  have a3 : w6.cell? ⟨bx, 3, none⟩ = some (.int .i64 A) := blk_cell I.hd 3
  have a4 : w6.cell? ⟨bx, 4, none⟩ = some (.int .i64 B) := blk_cell I.hd 4
  have a5 : w6.cell? ⟨bx, 5, none⟩ = some (.int .i64 x7) := blk_cell I.hd 5
  have a6 : w6.cell? ⟨bx, 6, none⟩ = some (.int .i64 X) := blk_cell I.hd 6
  have a7 : w6.cell? ⟨bx, 7, none⟩ = some (.int .i64 Y) := blk_cell I.hd 7
  have a8 : w6.cell? ⟨bx, 8, none⟩ = some (.int .i64 32) := blk_cell I.hd 8
  have a9 : w6.cell? ⟨bx, 9, none⟩ = some (.int .i64 8) := blk_cell I.hd 9
  have a10 : w6.cell? ⟨bx, 10, none⟩ = some (.bool false) := blk_cell I.hd 10
  have a11 : w6.cell? ⟨bx, 11, none⟩ = some (.bool false) := blk_cell I.hd 11
  have a12 : w6.cell? ⟨bx, 12, none⟩ = some (.int .i64 0) := blk_cell I.hd 12
  have a13 : w6.cell? ⟨bx, 13, none⟩ = some (.int .i64 0) := blk_cell I.hd 13
  have fa10 := blk_free I.hd 10
  have fa11 := blk_free I.hd 11
  have HRI := Lib.hid I
  have HRES := Lib.hid I.res
  have HGB := Lib.hid I.gb
  have hlx := blk_lt I.hd
  clear I
  go_upto_region 37 with fail
  refine abs_w (R := RI W bx #[.int .i64 x0, .int .i64 1, .int .i64 2, .int .i64 A, .int .i64 B, .int .i64 x7, .int .i64 X, .int .i64 Y, .int .i64 32, .int .i64 8, .bool lf, .bool tp, .int .i64 0, .int .i64 0]) ?_ (fun w7 I => ?_)
  · refine ⟨?_, ?_, HEB.out, ?_⟩
    · exact blk_other (blk_other HRES.out HNE.out) HNE.out
    · exact blk_set (blk_set HRI.out.hd 10 (.bool lf)) 11 (.bool tp)
    · exact gb_own (gb_own HGB.out HLE.out (gb_set _ _ _ _)) HLE.out (gb_set _ _ _ _)
  clear a0 a1 a2 a3 a4 a5 a6 a7 a8 a9 a10 a11 a12 a13
  clear fa10 fa11 HRI HRES HGB hlx
  have a0 : w7.cell? ⟨bx, 0, none⟩ = some (.int .i64 x0) := blk_cell I.hd 0
  have a1 : w7.cell? ⟨bx, 1, none⟩ = some (.int .i64 1) := blk_cell I.hd 1
  have a2 : w7.cell? ⟨bx, 2, none⟩ = some (.int .i64 2) := blk_cell I.hd 2
  have a3 : w7.cell? ⟨bx, 3, none⟩ = some (.int .i64 A) := blk_cell I.hd 3
  have a4 : w7.cell? ⟨bx, 4, none⟩ = some (.int .i64 B) := blk_cell I.hd 4
  have a5 : w7.cell? ⟨bx, 5, none⟩ = some (.int .i64 x7) := blk_cell I.hd 5
  have a6 : w7.cell? ⟨bx, 6, none⟩ = some (.int .i64 X) := blk_cell I.hd 6
  have a7 : w7.cell? ⟨bx, 7, none⟩ = some (.int .i64 Y) := blk_cell I.hd 7
  have a8 : w7.cell? ⟨bx, 8, none⟩ = some (.int .i64 32) := blk_cell I.hd 8
  have a9 : w7.cell? ⟨bx, 9, none⟩ = some (.int .i64 8) := blk_cell I.hd 9
  have a10 : w7.cell? ⟨bx, 10, none⟩ = some (.bool lf) := blk_cell I.hd 10
  have a11 : w7.cell? ⟨bx, 11, none⟩ = some (.bool tp) := blk_cell I.hd 11
  have a12 : w7.cell? ⟨bx, 12, none⟩ = some (.int .i64 0) := blk_cell I.hd 12
  have a13 : w7.cell? ⟨bx, 13, none⟩ = some (.int .i64 0) := blk_cell I.hd 13
  have r0 : w7.cell? ⟨W.heap.size, 0, none⟩ = some (.int .i64 0) := blk_cell I.res 0
  have rf0 := blk_free I.res 0
  have r1 : w7.cell? ⟨W.heap.size, 1, none⟩ = some (.int .i64 0) := blk_cell I.res 1
  have rf1 := blk_free I.res 1
  have r2 : w7.cell? ⟨W.heap.size, 2, none⟩ = some (.int .i64 0) := blk_cell I.res 2
  have rf2 := blk_free I.res 2
  have r3 : w7.cell? ⟨W.heap.size, 3, none⟩ = some (.int .i64 0) := blk_cell I.res 3
  have rf3 := blk_free I.res 3
  have r4 : w7.cell? ⟨W.heap.size, 4, none⟩ = some (.int .i64 0) := blk_cell I.res 4
  have rf4 := blk_free I.res 4
  have r5 : w7.cell? ⟨W.heap.size, 5, none⟩ = some (.int .i64 0) := blk_cell I.res 5
  have rf5 := blk_free I.res 5
  have r6 : w7.cell? ⟨W.heap.size, 6, none⟩ = some (.int .i64 0) := blk_cell I.res 6
  have rf6 := blk_free I.res 6
  have r7 : w7.cell? ⟨W.heap.size, 7, none⟩ = some (.int .i64 0) := blk_cell I.res 7
  have rf7 := blk_free I.res 7
  have r8 : w7.cell? ⟨W.heap.size, 8, none⟩ = some (.int .i64 0) := blk_cell I.res 8
  have rf8 := blk_free I.res 8
  have r9 : w7.cell? ⟨W.heap.size, 9, none⟩ = some (.int .i64 0) := blk_cell I.res 9
  have rf9 := blk_free I.res 9
  have r10 : w7.cell? ⟨W.heap.size, 10, none⟩ = some (.bool false) := blk_cell I.res 10
  have rf10 := blk_free I.res 10
  have r11 : w7.cell? ⟨W.heap.size, 11, none⟩ = some (.bool false) := blk_cell I.res 11
  have rf11 := blk_free I.res 11
  have r12 : w7.cell? ⟨W.heap.size, 12, none⟩ = some (.int .i64 0) := blk_cell I.res 12
  have rf12 := blk_free I.res 12
  have r13 : w7.cell? ⟨W.heap.size, 13, none⟩ = some (.int .i64 0) := blk_cell I.res 13
  have rf13 := blk_free I.res 13
  have hlr := blk_lt I.res
  have hlx := blk_lt I.hd
  have G9 := Lib.hid I.gb
  have E := Lib.hid (show RV = #[.int .i64 x0, .int .i64 1, .int .i64 2, .int .i64 A, .int .i64 B, .int .i64 x7, .int .i64 X, .int .i64 Y, .int .i64 32, .int .i64 8, .bool lf, .bool tp, .int .i64 0, .int .i64 0] from by rw [← ERV.out]; exact HGOOD.out)
  clear I
  go_wp2
  refine bodyPost_ret (v := .agg #[.int .i64 x0, .int .i64 1, .int .i64 2, .int .i64 A, .int .i64 B, .int .i64 x7, .int .i64 X, .int .i64 Y, .int .i64 32, .int .i64 8, .bool lf, .bool tp, .int .i64 0, .int .i64 0]) (by simp only [results, Try.results7]; go_simp) rfl ⟨by rw [E.out], ?_⟩
  exact gb_own (gb_own (gb_own (gb_own (gb_own (gb_own (gb_own (gb_own (gb_own (gb_own (gb_own (gb_own (gb_own (gb_own (G9.out) (Nat.le_refl _) (gb_set _ _ _ _)) (Nat.le_refl _) (gb_set _ _ _ _)) (Nat.le_refl _) (gb_set _ _ _ _)) (Nat.le_refl _) (gb_set _ _ _ _)) (Nat.le_refl _) (gb_set _ _ _ _)) (Nat.le_refl _) (gb_set _ _ _ _)) (Nat.le_refl _) (gb_set _ _ _ _)) (Nat.le_refl _) (gb_set _ _ _ _)) (Nat.le_refl _) (gb_set _ _ _ _)) (Nat.le_refl _) (gb_set _ _ _ _)) (Nat.le_refl _) (gb_set _ _ _ _)) (Nat.le_refl _) (gb_set _ _ _ _)) (Nat.le_refl _) (gb_set _ _ _ _)) (Nat.le_refl _) (gb_set _ _ _ _)


set_option maxRecDepth 100000 in
set_option maxHeartbeats 16000000 in
theorem read_mp_12_2_16_1 (s : ByteArray) (RV : Array Value) (x0 x7 x17 A B X Y : Nat) (lf tp : Bool) (W : World) (h18 : 18 ≤ s.size) (hm : s.size ≤ 9223372036854775807) (C : Ck s 12) (hRV : rV s 12 = RV)
    (e0 : bn s 0 = x0) (e1 : bn s 1 = 1) (e2 : bn s 2 = 2) (e7 : bn s 7 = x7) (e16 : bn s 16 = 16) (e17 : bn s 17 = x17) (eA : wd s 3 = A) (eB : wd s 5 = B) (eX : wd s 12 = X) (eY : wd s 14 = Y) (eal : x17 % 16 = 1) (elf : lft s = lf) (etp : tpp s = tp) :
    Calls Try.prog 7 #[.string s] W fun e w' => e = .returned (.agg RV) ∧ W.grownBy w' none := by
  have bA := wd_lt s 3
  have bB := wd_lt s 5
  have bX := wd_lt s 12
  have bY := wd_lt s 14
  have b0 := bn_lt s 0
  have b2 := bn_lt s 2
  have b7 := bn_lt s 7
  have b16 := bn_lt s 16
  have b17 := bn_lt s 17
  rw [eA] at bA
  rw [eB] at bB
  rw [eX] at bX
  rw [eY] at bY
  rw [e0] at b0
  rw [e2] at b2
  rw [e7] at b7
  rw [e16] at b16
  rw [e17] at b17
  have g0 : ((s[0]'(by omega)).toNat : Int) = x0 := bn_cell s 0 (by omega) e0
  have g1 : ((s[1]'(by omega)).toNat : Int) = 1 := bn_cell s 1 (by omega) e1
  have g2 : ((s[2]'(by omega)).toNat : Int) = 2 := bn_cell s 2 (by omega) e2
  have g7 : ((s[7]'(by omega)).toNat : Int) = x7 := bn_cell s 7 (by omega) e7
  have g16 : ((s[16]'(by omega)).toNat : Int) = 16 := bn_cell s 16 (by omega) e16
  have g17 : ((s[17]'(by omega)).toNat : Int) = x17 := bn_cell s 17 (by omega) e17
  have i0 : 0 < s.size := by omega
  have i1 : (1 : Int) < (s.size : Int) := by omega
  have i2 : (2 : Int) < (s.size : Int) := by omega
  have i7 : (7 : Int) < (s.size : Int) := by omega
  have i16 : (16 : Int) < (s.size : Int) := by omega
  have i17 : (17 : Int) < (s.size : Int) := by omega
  have i18 : ¬ (s.size : Int) < 18 := by omega
  have v0 : IntKind.i64.wrap (x0 : Int) = x0 := by rw [IntKind.wrap_i64]; omega
  have vw : IntKind.i64.wrap 1 = 1 := by rw [IntKind.wrap_i64]; decide
  have v2 : IntKind.i64.wrap (2 : Int) = 2 := by rw [IntKind.wrap_i64]; omega
  have v7 : IntKind.i64.wrap (x7 : Int) = x7 := by rw [IntKind.wrap_i64]; omega
  have v16 : IntKind.i64.wrap (16 : Int) = 16 := by rw [IntKind.wrap_i64]; omega
  have v17 : IntKind.i64.wrap (x17 : Int) = x17 := by rw [IntKind.wrap_i64]; omega
  have m1 : (x17 : Int) % 16 = 1 := by omega
  have m2 : (x17 : Int).tmod 16 = 1 := by rw [Int.tmod_eq_emod_of_nonneg (by omega)]; exact m1
  obtain ⟨q16, hq16⟩ : ∃ q, x17 / 16 = q := ⟨_, rfl⟩
  obtain ⟨q32, hq32⟩ : ∃ q, x17 / 32 = q := ⟨_, rfl⟩
  obtain ⟨p16, hp16⟩ : ∃ q, q16 % 2 = q := ⟨_, rfl⟩
  obtain ⟨p32, hp32⟩ : ∃ q, q32 % 2 = q := ⟨_, rfl⟩
  have m3 : (x17 : Int) / 16 = q16 := by omega
  have m4 : (x17 : Int).tdiv 16 = q16 := by rw [Int.tdiv_eq_ediv_of_nonneg (by omega)]; exact m3
  have m5 : (x17 : Int) / 32 = q32 := by omega
  have m6 : (x17 : Int).tdiv 32 = q32 := by rw [Int.tdiv_eq_ediv_of_nonneg (by omega)]; exact m5
  have m7 : (q16 : Int) % 2 = p16 := by omega
  have m8 : (q16 : Int).tmod 2 = p16 := by rw [Int.tmod_eq_emod_of_nonneg (by omega)]; exact m7
  have m9 : (q32 : Int) % 2 = p32 := by omega
  have m10 : (q32 : Int).tmod 2 = p32 := by rw [Int.tmod_eq_emod_of_nonneg (by omega)]; exact m9
  have zl : ((p16 : Int) == 1) = lf := by
    rw [← elf]
    unfold lft
    rw [e17, hq16, hp16, Bool.eq_iff_iff]
    simp
    omega
  have zt : ((p32 : Int) == 1) = tp := by
    rw [← etp]
    unfold tpp
    rw [e17, hq32, hp32, Bool.eq_iff_iff]
    simp
    omega
  have KLA := fun u => le_is s 3 (by omega) u
  have KLB := fun u => le_is s 5 (by omega) u
  have KLX := fun u => le_is s 12 (by omega) u
  have KLY := fun u => le_is s 14 (by omega) u
  simp only [eA] at KLA
  simp only [eB] at KLB
  simp only [eX] at KLX
  simp only [eY] at KLY
  have KLA := Lib.hid KLA
  have KLB := Lib.hid KLB
  have KLX := Lib.hid KLX
  have KLY := Lib.hid KLY
  have sA : ∀ w, (Instr.slice 9 (.string s) (some (.int .i64 3)) (some (.int .i64 5)) none).run Try.prog w = .ok (.string (s.extract 3 (3 + 2))) w := fun w => cut_at s 3 2 (by omega) w
  have sB : ∀ w, (Instr.slice 9 (.string s) (some (.int .i64 5)) (some (.int .i64 7)) none).run Try.prog w = .ok (.string (s.extract 5 (5 + 2))) w := fun w => cut_at s 5 2 (by omega) w
  have sX : ∀ w, (Instr.slice 9 (.string s) (some (.int .i64 12)) (some (.int .i64 14)) none).run Try.prog w = .ok (.string (s.extract 12 (12 + 2))) w := fun w => cut_at s 12 2 (by omega) w
  have sY : ∀ w, (Instr.slice 9 (.string s) (some (.int .i64 14)) (some (.int .i64 16)) none).run Try.prog w = .ok (.string (s.extract 14 (14 + 2))) w := fun w => cut_at s 14 2 (by omega) w
  have hmp : mpB s = true := by unfold mpB; rw [e1]; rfl
  have HGOOD : rV s 12 = #[.int .i64 x0, .int .i64 1, .int .i64 2, .int .i64 A, .int .i64 B, .int .i64 x7, .int .i64 X, .int .i64 Y, .int .i64 16, .int .i64 1, .bool lf, .bool tp, .int .i64 0, .int .i64 0] := by
    unfold rV rGood fst cnt ent alp
    rw [if_pos rfl, hmp, e0, e2, eX, eY, e16, e17, eal, elf, etp]
    simp [eA, eB, e7]
  have HGOOD := Lib.hid HGOOD
  have HMP := Lib.hid hmp
  have HX1 := Lib.hid e1
  have HX2 := Lib.hid e2
  have HX7 := Lib.hid e7
  have HX16 := Lib.hid e16
  have HX17 := Lib.hid e17
  have HB := Lib.hid eB
  have HX := Lib.hid eX
  have HY := Lib.hid eY
  have HAL := Lib.hid eal
  have HC := Lib.hid C
  have ERV := Lib.hid hRV
  clear e0 e1 e2 e7 e16 e17 eA eB eX eY eal elf etp hmp C hRV hq16 hq32 hp16 hp32
  go_enter Try.func7, Try.ntmps7
  go_upto_region 1 with fail
  have hR : (W.alloc (.cells #[.int .i64 0, .int .i64 0, .int .i64 0, .int .i64 0, .int .i64 0, .int .i64 0, .int .i64 0, .int .i64 0, .int .i64 0, .int .i64 0, .bool false, .bool false, .int .i64 0, .int .i64 0] 30)).heap[W.heap.size]? = some (.cells #[.int .i64 0, .int .i64 0, .int .i64 0, .int .i64 0, .int .i64 0, .int .i64 0, .int .i64 0, .int .i64 0, .int .i64 0, .int .i64 0, .bool false, .bool false, .int .i64 0, .int .i64 0] 30 (0, 0)) := blk_at
  have hG := World.grownBy_alloc W (.cells #[.int .i64 0, .int .i64 0, .int .i64 0, .int .i64 0, .int .i64 0, .int .i64 0, .int .i64 0, .int .i64 0, .int .i64 0, .int .i64 0, .bool false, .bool false, .int .i64 0, .int .i64 0] 30) none
  have hZ := size_alloc W (.cells #[.int .i64 0, .int .i64 0, .int .i64 0, .int .i64 0, .int .i64 0, .int .i64 0, .int .i64 0, .int .i64 0, .int .i64 0, .int .i64 0, .bool false, .bool false, .int .i64 0, .int .i64 0] 30)
  generalize W.alloc (.cells #[.int .i64 0, .int .i64 0, .int .i64 0, .int .i64 0, .int .i64 0, .int .i64 0, .int .i64 0, .int .i64 0, .int .i64 0, .int .i64 0, .bool false, .bool false, .int .i64 0, .int .i64 0] 30) = w1 at hR hG hZ ⊢
  obtain ⟨bx, hbx⟩ : ∃ bx, w1.heap.size = bx := ⟨_, rfl⟩
  have HEB := Lib.hid (show bx = W.heap.size + 1 by omega)
  have HNE := Lib.hid (show W.heap.size ≠ bx by omega)
  have HLE := Lib.hid (show W.heap.size ≤ bx by omega)
  have ne1 : W.heap.size ≠ bx := HNE.out
  have ne2 : bx ≠ W.heap.size := fun h => HNE.out h.symm
  have HR := Lib.hid hR
  have HG := Lib.hid hG
  clear hR hG hZ
  have hc1 : ∀ (w : World) (o : Obj), w.drew.alloc o = (w.alloc o).drew := fun _ _ => rfl
  have hc2 : ∀ (w : World) (a : Addr) (v : Value), w.drew.setCell a v = (w.setCell a v).drew := fun w a v => drewN_set w 1 a v
  go_upto_region 10 with fail
  refine wp_region_held_drew (S := fun _ => True) (by kernel_rfl) ?_ (fun hHeld => ?_)
  · first | exact trivial | go_keep
  refine wpAnyH_take (i := 0) (oi := { dst := some 54, op := Go.Op.move (Go.Operand.tmp 0), type := 9, pos := "ref.go:38", after := #[], guard := none }) (v := ?v0_185) rfl (by kernel_rfl) (by kernel_rfl) (by kernel_rfl) (fun _ _ _ h => h) (Or.inl ⟨by rfl, ?hy0_185⟩) (by assumption) ?rest0_185
  case hy0_185 =>
    intro w' hSw
    try dsimp only at hSw
    go_simp
    try with_reducible rfl
  try simp only [Act.put, List.setIfInBounds_toArray, List.set_cons_zero, List.set_cons_succ]
  refine wpAnyH_take (i := 1) (oi := { dst := some 55, op := Go.Op.index 9 (Go.Operand.tmp 54) (Go.Operand.const (Go.Value.int Go.IntKind.i64 0)), type := 5, pos := "ref.go:38", after := #[{ on := 0, ground := Go.Ground.data }], guard := none }) (v := ?v1_186) rfl (by kernel_rfl) (by kernel_rfl) (by kernel_rfl) (fun _ _ _ h => h) (Or.inl ⟨by rfl, ?hy1_186⟩) (by assumption) ?rest1_186
  case hy1_186 =>
    intro w' hSw
    try dsimp only at hSw
    go_simp
    try with_reducible rfl
  try simp only [Act.put, List.setIfInBounds_toArray, List.set_cons_zero, List.set_cons_succ]
  refine wpAnyH_take (i := 2) (oi := { dst := some 56, op := Go.Op.convert 5 3 (Go.Operand.tmp 55), type := 3, pos := "ref.go:38", after := #[{ on := 1, ground := Go.Ground.data }], guard := none }) (v := ?v2_187) rfl (by kernel_rfl) (by kernel_rfl) (by kernel_rfl) (fun _ _ _ h => h) (Or.inl ⟨by rfl, ?hy2_187⟩) (by assumption) ?rest2_187
  case hy2_187 =>
    intro w' hSw
    try dsimp only at hSw
    go_simp
    try with_reducible rfl
  try simp only [Act.put, List.setIfInBounds_toArray, List.set_cons_zero, List.set_cons_succ]
  refine wpAnyH_take (i := 3) (oi := { dst := some 57, op := Go.Op.move (Go.Operand.tmp 0), type := 9, pos := "ref.go:38", after := #[], guard := none }) (v := ?v3_188) rfl (by kernel_rfl) (by kernel_rfl) (by kernel_rfl) (fun _ _ _ h => h) (Or.inl ⟨by rfl, ?hy3_188⟩) (by assumption) ?rest3_188
  case hy3_188 =>
    intro w' hSw
    try dsimp only at hSw
    go_simp
    try with_reducible rfl
  try simp only [Act.put, List.setIfInBounds_toArray, List.set_cons_zero, List.set_cons_succ]
  refine wpAnyH_take (i := 4) (oi := { dst := some 58, op := Go.Op.index 9 (Go.Operand.tmp 57) (Go.Operand.const (Go.Value.int Go.IntKind.i64 1)), type := 5, pos := "ref.go:38", after := #[{ on := 3, ground := Go.Ground.data }], guard := none }) (v := ?v4_189) rfl (by kernel_rfl) (by kernel_rfl) (by kernel_rfl) (fun _ _ _ h => h) (Or.inl ⟨by rfl, ?hy4_189⟩) (by assumption) ?rest4_189
  case hy4_189 =>
    intro w' hSw
    try dsimp only at hSw
    go_simp
    try with_reducible rfl
  try simp only [Act.put, List.setIfInBounds_toArray, List.set_cons_zero, List.set_cons_succ]
  refine wpAnyH_take (i := 5) (oi := { dst := some 59, op := Go.Op.convert 5 3 (Go.Operand.tmp 58), type := 3, pos := "ref.go:38", after := #[{ on := 4, ground := Go.Ground.data }], guard := none }) (v := ?v5_190) rfl (by kernel_rfl) (by kernel_rfl) (by kernel_rfl) (fun _ _ _ h => h) (Or.inl ⟨by rfl, ?hy5_190⟩) (by assumption) ?rest5_190
  case hy5_190 =>
    intro w' hSw
    try dsimp only at hSw
    go_simp
    try with_reducible rfl
  try simp only [Act.put, List.setIfInBounds_toArray, List.set_cons_zero, List.set_cons_succ]
  refine wpAnyH_take (i := 6) (oi := { dst := some 60, op := Go.Op.move (Go.Operand.tmp 3), type := 3, pos := "ref.go:38", after := #[], guard := none }) (v := ?v6_191) rfl (by kernel_rfl) (by kernel_rfl) (by kernel_rfl) (fun _ _ _ h => h) (Or.inl ⟨by rfl, ?hy6_191⟩) (by assumption) ?rest6_191
  case hy6_191 =>
    intro w' hSw
    try dsimp only at hSw
    go_simp
    try with_reducible rfl
  try simp only [Act.put, List.setIfInBounds_toArray, List.set_cons_zero, List.set_cons_succ]
  refine wpAnyH_take (i := 7) (oi := { dst := some 61, op := Go.Op.build 30 #[(0, Go.Operand.tmp 56), (1, Go.Operand.tmp 59), (2, Go.Operand.tmp 60)], type := 30, pos := "ref.go:38", after := #[{ on := 2, ground := Go.Ground.data }, { on := 5, ground := Go.Ground.data }, { on := 6, ground := Go.Ground.data }], guard := none }) (v := ?v7_192) rfl (by kernel_rfl) (by kernel_rfl) (by kernel_rfl) (fun _ _ _ h => h) (Or.inl ⟨by rfl, ?hy7_192⟩) (by assumption) ?rest7_192
  case hy7_192 =>
    intro w' hSw
    try dsimp only at hSw
    go_simp
    try with_reducible rfl
  try simp only [Act.put, List.setIfInBounds_toArray, List.set_cons_zero, List.set_cons_succ]
  refine wpAnyH_ready (rs := [8]) (by kernel_rfl) (by simp) ?_
  refine AllReadyH.cons (o := { dst := some 4, op := Go.Op.alloc 30, type := 0, pos := "ref.go:38", after := #[], guard := none }) rfl (fun K hK => ?_) AllReadyH.nil
  go_simp
  refine hK.out _ _ ?_ (fun hHeld2 => ?_)
  · first | exact trivial | go_keep
  clear hHeld
  have hHeld := hHeld2
  clear hK K hHeld2
  try simp only [Act.put, List.setIfInBounds_toArray, List.set_cons_zero, List.set_cons_succ]
  refine wpAnyH_ready (rs := [9]) (by kernel_rfl) (by simp) ?_
  refine AllReadyH.cons (o := { dst := none, op := Go.Op.store 30 (Go.Operand.tmp 4) (Go.Operand.tmp 61), type := 0, pos := "ref.go:38", after := #[{ on := 8, ground := Go.Ground.data }, { on := 7, ground := Go.Ground.data }, { on := 0, ground := Go.Ground.phase }, { on := 1, ground := Go.Ground.phase }, { on := 2, ground := Go.Ground.phase }, { on := 3, ground := Go.Ground.phase }, { on := 4, ground := Go.Ground.phase }, { on := 5, ground := Go.Ground.phase }, { on := 6, ground := Go.Ground.phase }, { on := 7, ground := Go.Ground.phase }, { on := 8, ground := Go.Ground.phase }], guard := none }) rfl (fun K hK => ?_) AllReadyH.nil
  go_simp
  refine hK.out _ _ ?_ (fun hHeld2 => ?_)
  · first | exact trivial | go_keep
  clear hHeld
  have hHeld := hHeld2
  clear hK K hHeld2
  try simp only [Act.put, List.setIfInBounds_toArray, List.set_cons_zero, List.set_cons_succ]
  refine wpAnyH_done (by kernel_rfl) ?_ _
  refine abs_w (R := RI W bx #[.int .i64 x0, .int .i64 1, .int .i64 2, .int .i64 0, .int .i64 0, .int .i64 0, .int .i64 0, .int .i64 0, .int .i64 0, .int .i64 0, .bool false, .bool false, .int .i64 0, .int .i64 0]) ?_ (fun w2 I => ?_)
  · refine ⟨?_, ?_, HEB.out, ?_⟩
    · exact (blk_al HR.out (.cells #[.int .i64 x0, .int .i64 1, .int .i64 2, .int .i64 0, .int .i64 0, .int .i64 0, .int .i64 0, .int .i64 0, .int .i64 0, .int .i64 0, .bool false, .bool false, .int .i64 0, .int .i64 0] 30))
    · exact at_bx hbx
    · exact gb_trans (gb_trans HG.out (World.grownBy_alloc w1 (.cells #[.int .i64 x0, .int .i64 1, .int .i64 2, .int .i64 0, .int .i64 0, .int .i64 0, .int .i64 0, .int .i64 0, .int .i64 0, .int .i64 0, .bool false, .bool false, .int .i64 0, .int .i64 0] 30) none)) (gb_drew _ _)
  have a0 : w2.cell? ⟨bx, 0, none⟩ = some (.int .i64 x0) := blk_cell I.hd 0
  have a1 : w2.cell? ⟨bx, 1, none⟩ = some (.int .i64 1) := blk_cell I.hd 1
  have a2 : w2.cell? ⟨bx, 2, none⟩ = some (.int .i64 2) := blk_cell I.hd 2
  have a3 : w2.cell? ⟨bx, 3, none⟩ = some (.int .i64 0) := blk_cell I.hd 3
  have a4 : w2.cell? ⟨bx, 4, none⟩ = some (.int .i64 0) := blk_cell I.hd 4
  have a5 : w2.cell? ⟨bx, 5, none⟩ = some (.int .i64 0) := blk_cell I.hd 5
  have a6 : w2.cell? ⟨bx, 6, none⟩ = some (.int .i64 0) := blk_cell I.hd 6
  have a7 : w2.cell? ⟨bx, 7, none⟩ = some (.int .i64 0) := blk_cell I.hd 7
  have a8 : w2.cell? ⟨bx, 8, none⟩ = some (.int .i64 0) := blk_cell I.hd 8
  have a9 : w2.cell? ⟨bx, 9, none⟩ = some (.int .i64 0) := blk_cell I.hd 9
  have a10 : w2.cell? ⟨bx, 10, none⟩ = some (.bool false) := blk_cell I.hd 10
  have a11 : w2.cell? ⟨bx, 11, none⟩ = some (.bool false) := blk_cell I.hd 11
  have a12 : w2.cell? ⟨bx, 12, none⟩ = some (.int .i64 0) := blk_cell I.hd 12
  have a13 : w2.cell? ⟨bx, 13, none⟩ = some (.int .i64 0) := blk_cell I.hd 13
  have fa3 := blk_free I.hd 3
  have fa4 := blk_free I.hd 4
  have fa5 := blk_free I.hd 5
  have fa6 := blk_free I.hd 6
  have fa7 := blk_free I.hd 7
  have HRI := Lib.hid I
  have HRES := Lib.hid I.res
  have HGB := Lib.hid I.gb
  have hlx := blk_lt I.hd
  clear I
  go_upto_region 12 with fail
  refine wp_region_held_drew (S := fun _ => True) (by kernel_rfl) ?_ (fun hHeld => ?_)
  · first | exact trivial | go_keep
  refine wpAnyH_take (i := 0) (oi := { dst := some 65, op := Go.Op.move (Go.Operand.tmp 0), type := 9, pos := "ref.go:40", after := #[], guard := none }) (v := ?v0_193) rfl (by kernel_rfl) (by kernel_rfl) (by kernel_rfl) (fun _ _ _ h => h) (Or.inl ⟨by rfl, ?hy0_193⟩) (by assumption) ?rest0_193
  case hy0_193 =>
    intro w' hSw
    try dsimp only at hSw
    go_simp
    try with_reducible rfl
  try simp only [Act.put, List.setIfInBounds_toArray, List.set_cons_zero, List.set_cons_succ]
  refine wpAnyH_take (i := 1) (oi := { dst := some 66, op := Go.Op.slice 9 (Go.Operand.tmp 65) (some (Go.Operand.const (Go.Value.int Go.IntKind.i64 3))) (some (Go.Operand.const (Go.Value.int Go.IntKind.i64 5))) none, type := 9, pos := "ref.go:40", after := #[{ on := 0, ground := Go.Ground.data }], guard := none }) (v := ?v1_194) rfl (by kernel_rfl) (by kernel_rfl) (by kernel_rfl) (fun _ _ _ h => h) (Or.inl ⟨by rfl, ?hy1_194⟩) (by assumption) ?rest1_194
  case hy1_194 =>
    intro w' hSw
    try dsimp only at hSw
    go_simp
    try with_reducible rfl
  try simp only [Act.put, List.setIfInBounds_toArray, List.set_cons_zero, List.set_cons_succ]
  refine wpAnyH_take (i := 3) (oi := { dst := some 68, op := Go.Op.move (Go.Operand.tmp 0), type := 9, pos := "ref.go:40", after := #[], guard := none }) (v := ?v3_195) rfl (by kernel_rfl) (by kernel_rfl) (by kernel_rfl) (fun _ _ _ h => h) (Or.inl ⟨by rfl, ?hy3_195⟩) (by assumption) ?rest3_195
  case hy3_195 =>
    intro w' hSw
    try dsimp only at hSw
    go_simp
    try with_reducible rfl
  try simp only [Act.put, List.setIfInBounds_toArray, List.set_cons_zero, List.set_cons_succ]
  refine wpAnyH_take (i := 4) (oi := { dst := some 69, op := Go.Op.slice 9 (Go.Operand.tmp 68) (some (Go.Operand.const (Go.Value.int Go.IntKind.i64 5))) (some (Go.Operand.const (Go.Value.int Go.IntKind.i64 7))) none, type := 9, pos := "ref.go:40", after := #[{ on := 3, ground := Go.Ground.data }], guard := none }) (v := ?v4_196) rfl (by kernel_rfl) (by kernel_rfl) (by kernel_rfl) (fun _ _ _ h => h) (Or.inl ⟨by rfl, ?hy4_196⟩) (by assumption) ?rest4_196
  case hy4_196 =>
    intro w' hSw
    try dsimp only at hSw
    go_simp
    try with_reducible rfl
  try simp only [Act.put, List.setIfInBounds_toArray, List.set_cons_zero, List.set_cons_succ]
  refine wpAnyH_take (i := 6) (oi := { dst := some 71, op := Go.Op.move (Go.Operand.tmp 0), type := 9, pos := "ref.go:40", after := #[{ on := 12, ground := Go.Ground.gcOnly Go.Departure.lateStores }], guard := none }) (v := ?v6_197) rfl (by kernel_rfl) (by kernel_rfl) (by kernel_rfl) (fun _ _ _ h => h) (Or.inl ⟨by rfl, ?hy6_197⟩) (by assumption) ?rest6_197
  case hy6_197 =>
    intro w' hSw
    try dsimp only at hSw
    go_simp
    try with_reducible rfl
  try simp only [Act.put, List.setIfInBounds_toArray, List.set_cons_zero, List.set_cons_succ]
  refine wpAnyH_take (i := 7) (oi := { dst := some 72, op := Go.Op.index 9 (Go.Operand.tmp 71) (Go.Operand.const (Go.Value.int Go.IntKind.i64 7)), type := 5, pos := "ref.go:40", after := #[{ on := 6, ground := Go.Ground.data }, { on := 12, ground := Go.Ground.gcOnly Go.Departure.lateStores }], guard := none }) (v := ?v7_198) rfl (by kernel_rfl) (by kernel_rfl) (by kernel_rfl) (fun _ _ _ h => h) (Or.inl ⟨by rfl, ?hy7_198⟩) (by assumption) ?rest7_198
  case hy7_198 =>
    intro w' hSw
    try dsimp only at hSw
    go_simp
    try with_reducible rfl
  try simp only [Act.put, List.setIfInBounds_toArray, List.set_cons_zero, List.set_cons_succ]
  refine wpAnyH_take (i := 8) (oi := { dst := some 73, op := Go.Op.convert 5 3 (Go.Operand.tmp 72), type := 3, pos := "ref.go:40", after := #[{ on := 7, ground := Go.Ground.data }, { on := 12, ground := Go.Ground.gcOnly Go.Departure.lateStores }], guard := none }) (v := ?v8_199) rfl (by kernel_rfl) (by kernel_rfl) (by kernel_rfl) (fun _ _ _ h => h) (Or.inl ⟨by rfl, ?hy8_199⟩) (by assumption) ?rest8_199
  case hy8_199 =>
    intro w' hSw
    try dsimp only at hSw
    go_simp
    try with_reducible rfl
  try simp only [Act.put, List.setIfInBounds_toArray, List.set_cons_zero, List.set_cons_succ]
  refine wpAnyH_ready (rs := [2]) (by kernel_rfl) (by simp) ?_
  refine AllReadyH.cons (o := { dst := some 67, op := Go.Op.call { callee := Go.Callee.value (Go.Operand.func 16), args := #[Go.Operand.tmp 66], argTypes := #[9] }, type := 3, pos := "ref.go:40", after := #[{ on := 1, ground := Go.Ground.data }], guard := none }) rfl (fun K hK => ?_) AllReadyH.nil
  go_simp
  refine (KLA.out _).mono ?_
  rintro e w' ⟨rfl, rfl⟩
  try go_wp2_with fail
  refine hK.out _ _ ?_ (fun hHeld2 => ?_)
  · first | exact trivial | go_keep
  clear hHeld
  have hHeld := hHeld2
  clear hK K hHeld2
  try simp only [Act.put, List.setIfInBounds_toArray, List.set_cons_zero, List.set_cons_succ]
  refine wpAnyH_take (i := 9) (oi := { dst := some 74, op := Go.Op.fieldAddr 30 (Go.Operand.tmp 4) 3, type := 0, pos := "ref.go:40", after := #[{ on := 0, ground := Go.Ground.phase }, { on := 1, ground := Go.Ground.phase }, { on := 2, ground := Go.Ground.phase }, { on := 3, ground := Go.Ground.textOnly Go.Departure.lateStores }, { on := 4, ground := Go.Ground.textOnly Go.Departure.lateStoresUnsure }, { on := 5, ground := Go.Ground.textOnly Go.Departure.lateStoresUnsure }, { on := 6, ground := Go.Ground.textOnly Go.Departure.lateStores }, { on := 7, ground := Go.Ground.textOnly Go.Departure.lateStores }, { on := 8, ground := Go.Ground.textOnly Go.Departure.lateStores }], guard := none }) (v := ?v9_200) rfl (by kernel_rfl) (by kernel_rfl) (by kernel_rfl) (fun _ _ _ h => h) (Or.inl ⟨by rfl, ?hy9_200⟩) (by assumption) ?rest9_200
  case hy9_200 =>
    intro w' hSw
    try dsimp only at hSw
    go_simp
    try with_reducible rfl
  try simp only [Act.put, List.setIfInBounds_toArray, List.set_cons_zero, List.set_cons_succ]
  refine wpAnyH_ready (rs := [5]) (by kernel_rfl) (by simp) ?_
  refine AllReadyH.cons (o := { dst := some 70, op := Go.Op.call { callee := Go.Callee.value (Go.Operand.func 16), args := #[Go.Operand.tmp 69], argTypes := #[9] }, type := 3, pos := "ref.go:40", after := #[{ on := 4, ground := Go.Ground.data }, { on := 2, ground := Go.Ground.chain }], guard := none }) rfl (fun K hK => ?_) AllReadyH.nil
  go_simp
  refine (KLB.out _).mono ?_
  rintro e w' ⟨rfl, rfl⟩
  try go_wp2_with fail
  refine hK.out _ _ ?_ (fun hHeld2 => ?_)
  · first | exact trivial | go_keep
  clear hHeld
  have hHeld := hHeld2
  clear hK K hHeld2
  try simp only [Act.put, List.setIfInBounds_toArray, List.set_cons_zero, List.set_cons_succ]
  refine wpAnyH_ready (rs := [10]) (by kernel_rfl) (by simp) ?_
  refine AllReadyH.cons (o := { dst := none, op := Go.Op.store 3 (Go.Operand.tmp 74) (Go.Operand.tmp 67), type := 0, pos := "ref.go:40", after := #[{ on := 9, ground := Go.Ground.data }, { on := 2, ground := Go.Ground.data }, { on := 5, ground := Go.Ground.chain }, { on := 0, ground := Go.Ground.phase }, { on := 1, ground := Go.Ground.phase }, { on := 2, ground := Go.Ground.phase }, { on := 3, ground := Go.Ground.textOnly Go.Departure.lateStores }, { on := 4, ground := Go.Ground.textOnly Go.Departure.lateStoresUnsure }, { on := 5, ground := Go.Ground.textOnly Go.Departure.lateStoresUnsure }, { on := 6, ground := Go.Ground.textOnly Go.Departure.lateStores }, { on := 7, ground := Go.Ground.textOnly Go.Departure.lateStores }, { on := 8, ground := Go.Ground.textOnly Go.Departure.lateStores }], guard := none }) rfl (fun K hK => ?_) AllReadyH.nil
  go_simp
  refine hK.out _ _ ?_ (fun hHeld2 => ?_)
  · first | exact trivial | go_keep
  clear hHeld
  have hHeld := hHeld2
  clear hK K hHeld2
  try simp only [Act.put, List.setIfInBounds_toArray, List.set_cons_zero, List.set_cons_succ]
  refine wpAnyH_take (i := 11) (oi := { dst := some 75, op := Go.Op.fieldAddr 30 (Go.Operand.tmp 4) 4, type := 0, pos := "ref.go:40", after := #[{ on := 0, ground := Go.Ground.phase }, { on := 1, ground := Go.Ground.phase }, { on := 2, ground := Go.Ground.phase }, { on := 3, ground := Go.Ground.phase }, { on := 4, ground := Go.Ground.phase }, { on := 5, ground := Go.Ground.phase }, { on := 6, ground := Go.Ground.textOnly Go.Departure.lateStores }, { on := 7, ground := Go.Ground.textOnly Go.Departure.lateStores }, { on := 8, ground := Go.Ground.textOnly Go.Departure.lateStores }, { on := 9, ground := Go.Ground.phase }, { on := 10, ground := Go.Ground.phase }], guard := none }) (v := ?v11_201) rfl (by kernel_rfl) (by kernel_rfl) (by kernel_rfl) (fun _ _ _ h => h) (Or.inl ⟨by rfl, ?hy11_201⟩) (by assumption) ?rest11_201
  case hy11_201 =>
    intro w' hSw
    try dsimp only at hSw
    go_simp
    try with_reducible rfl
  try simp only [Act.put, List.setIfInBounds_toArray, List.set_cons_zero, List.set_cons_succ]
  refine wpAnyH_ready (rs := [12]) (by kernel_rfl) (by simp) ?_
  refine AllReadyH.cons (o := { dst := none, op := Go.Op.store 3 (Go.Operand.tmp 75) (Go.Operand.tmp 70), type := 0, pos := "ref.go:40", after := #[{ on := 11, ground := Go.Ground.data }, { on := 5, ground := Go.Ground.data }, { on := 10, ground := Go.Ground.chain }, { on := 0, ground := Go.Ground.phase }, { on := 1, ground := Go.Ground.phase }, { on := 2, ground := Go.Ground.phase }, { on := 3, ground := Go.Ground.phase }, { on := 4, ground := Go.Ground.phase }, { on := 5, ground := Go.Ground.phase }, { on := 6, ground := Go.Ground.textOnly Go.Departure.lateStores }, { on := 7, ground := Go.Ground.textOnly Go.Departure.lateStores }, { on := 8, ground := Go.Ground.textOnly Go.Departure.lateStores }, { on := 9, ground := Go.Ground.phase }, { on := 10, ground := Go.Ground.phase }], guard := none }) rfl (fun K hK => ?_) AllReadyH.nil
  go_simp
  refine hK.out _ _ ?_ (fun hHeld2 => ?_)
  · first | exact trivial | go_keep
  clear hHeld
  have hHeld := hHeld2
  clear hK K hHeld2
  try simp only [Act.put, List.setIfInBounds_toArray, List.set_cons_zero, List.set_cons_succ]
  refine wpAnyH_take (i := 13) (oi := { dst := some 76, op := Go.Op.fieldAddr 30 (Go.Operand.tmp 4) 5, type := 0, pos := "ref.go:40", after := #[{ on := 0, ground := Go.Ground.phase }, { on := 1, ground := Go.Ground.phase }, { on := 2, ground := Go.Ground.phase }, { on := 3, ground := Go.Ground.phase }, { on := 4, ground := Go.Ground.phase }, { on := 5, ground := Go.Ground.phase }, { on := 6, ground := Go.Ground.phase }, { on := 7, ground := Go.Ground.phase }, { on := 8, ground := Go.Ground.phase }, { on := 9, ground := Go.Ground.phase }, { on := 10, ground := Go.Ground.phase }, { on := 11, ground := Go.Ground.phase }, { on := 12, ground := Go.Ground.phase }], guard := none }) (v := ?v13_202) rfl (by kernel_rfl) (by kernel_rfl) (by kernel_rfl) (fun _ _ _ h => h) (Or.inl ⟨by rfl, ?hy13_202⟩) (by assumption) ?rest13_202
  case hy13_202 =>
    intro w' hSw
    try dsimp only at hSw
    go_simp
    try with_reducible rfl
  try simp only [Act.put, List.setIfInBounds_toArray, List.set_cons_zero, List.set_cons_succ]
  refine wpAnyH_ready (rs := [14]) (by kernel_rfl) (by simp) ?_
  refine AllReadyH.cons (o := { dst := none, op := Go.Op.store 3 (Go.Operand.tmp 76) (Go.Operand.tmp 73), type := 0, pos := "ref.go:40", after := #[{ on := 13, ground := Go.Ground.data }, { on := 8, ground := Go.Ground.data }, { on := 12, ground := Go.Ground.chain }, { on := 0, ground := Go.Ground.phase }, { on := 1, ground := Go.Ground.phase }, { on := 2, ground := Go.Ground.phase }, { on := 3, ground := Go.Ground.phase }, { on := 4, ground := Go.Ground.phase }, { on := 5, ground := Go.Ground.phase }, { on := 6, ground := Go.Ground.phase }, { on := 7, ground := Go.Ground.phase }, { on := 8, ground := Go.Ground.phase }, { on := 9, ground := Go.Ground.phase }, { on := 10, ground := Go.Ground.phase }, { on := 11, ground := Go.Ground.phase }, { on := 12, ground := Go.Ground.phase }], guard := none }) rfl (fun K hK => ?_) AllReadyH.nil
  go_simp
  refine hK.out _ _ ?_ (fun hHeld2 => ?_)
  · first | exact trivial | go_keep
  clear hHeld
  have hHeld := hHeld2
  clear hK K hHeld2
  try simp only [Act.put, List.setIfInBounds_toArray, List.set_cons_zero, List.set_cons_succ]
  refine wpAnyH_done (by kernel_rfl) ?_ _
  refine abs_w (R := RI W bx #[.int .i64 x0, .int .i64 1, .int .i64 2, .int .i64 A, .int .i64 B, .int .i64 x7, .int .i64 0, .int .i64 0, .int .i64 0, .int .i64 0, .bool false, .bool false, .int .i64 0, .int .i64 0]) ?_ (fun w3 I => ?_)
  · refine ⟨?_, ?_, HEB.out, ?_⟩
    · exact blk_other (blk_other (blk_other HRES.out HNE.out) HNE.out) HNE.out
    · exact blk_set (blk_set (blk_set HRI.out.hd 3 (.int .i64 A)) 4 (.int .i64 B)) 5 (.int .i64 x7)
    · exact gb_trans (gb_own (gb_own (gb_own HGB.out HLE.out (gb_set _ _ _ _)) HLE.out (gb_set _ _ _ _)) HLE.out (gb_set _ _ _ _)) (gb_drew _ _)
  clear a0 a1 a2 a3 a4 a5 a6 a7 a8 a9 a10 a11 a12 a13
  clear fa3 fa4 fa5 fa6 fa7 HRI HRES HGB hlx
  have a0 : w3.cell? ⟨bx, 0, none⟩ = some (.int .i64 x0) := blk_cell I.hd 0
  have a1 : w3.cell? ⟨bx, 1, none⟩ = some (.int .i64 1) := blk_cell I.hd 1
  have a2 : w3.cell? ⟨bx, 2, none⟩ = some (.int .i64 2) := blk_cell I.hd 2
  have a3 : w3.cell? ⟨bx, 3, none⟩ = some (.int .i64 A) := blk_cell I.hd 3
  have a4 : w3.cell? ⟨bx, 4, none⟩ = some (.int .i64 B) := blk_cell I.hd 4
  have a5 : w3.cell? ⟨bx, 5, none⟩ = some (.int .i64 x7) := blk_cell I.hd 5
  have a6 : w3.cell? ⟨bx, 6, none⟩ = some (.int .i64 0) := blk_cell I.hd 6
  have a7 : w3.cell? ⟨bx, 7, none⟩ = some (.int .i64 0) := blk_cell I.hd 7
  have a8 : w3.cell? ⟨bx, 8, none⟩ = some (.int .i64 0) := blk_cell I.hd 8
  have a9 : w3.cell? ⟨bx, 9, none⟩ = some (.int .i64 0) := blk_cell I.hd 9
  have a10 : w3.cell? ⟨bx, 10, none⟩ = some (.bool false) := blk_cell I.hd 10
  have a11 : w3.cell? ⟨bx, 11, none⟩ = some (.bool false) := blk_cell I.hd 11
  have a12 : w3.cell? ⟨bx, 12, none⟩ = some (.int .i64 0) := blk_cell I.hd 12
  have a13 : w3.cell? ⟨bx, 13, none⟩ = some (.int .i64 0) := blk_cell I.hd 13
  have fa6 := blk_free I.hd 6
  have fa7 := blk_free I.hd 7
  have HRI := Lib.hid I
  have HRES := Lib.hid I.res
  have HGB := Lib.hid I.gb
  have hlx := blk_lt I.hd
  clear I
  go_upto_region 13 with fail
  have KC7 := Lib.hid (fun u => rcolor_calls x7 u)
  have hck : ck s 3 = false := HC.out.no 3 (by omega)
  have hc7 : colB x7 = true := by have h := hck; simp only [ck, HMP.out, HX7.out] at h; simpa using h
  rw [hc7] at KC7
  clear hck hc7
  go_wp2_with fail
  refine (KC7.out _).mono ?_
  rintro e w' ⟨rfl, rfl⟩
  go_upto_region 15 with fail
  have hck : ck s 4 = false := HC.out.no 4 (by omega)
  have d4 : ((B : Int) == 0) = false := by have h := hck; simp only [ck, HMP.out, HB.out] at h; rw [beq_eq_false_iff_ne]; simp at h; omega
  clear hck
  go_upto_region 17 with fail
  refine wp_region_held_drew (S := fun _ => True) (by kernel_rfl) ?_ (fun hHeld => ?_)
  · first | exact trivial | go_keep
  refine wpAnyH_take (i := 0) (oi := { dst := some 86, op := Go.Op.move (Go.Operand.tmp 0), type := 9, pos := "ref.go:48", after := #[], guard := none }) (v := ?v0_203) rfl (by kernel_rfl) (by kernel_rfl) (by kernel_rfl) (fun _ _ _ h => h) (Or.inl ⟨by rfl, ?hy0_203⟩) (by assumption) ?rest0_203
  case hy0_203 =>
    intro w' hSw
    try dsimp only at hSw
    go_simp
    try with_reducible rfl
  try simp only [Act.put, List.setIfInBounds_toArray, List.set_cons_zero, List.set_cons_succ]
  refine wpAnyH_take (i := 1) (oi := { dst := some 87, op := Go.Op.slice 9 (Go.Operand.tmp 86) (some (Go.Operand.const (Go.Value.int Go.IntKind.i64 12))) (some (Go.Operand.const (Go.Value.int Go.IntKind.i64 14))) none, type := 9, pos := "ref.go:48", after := #[{ on := 0, ground := Go.Ground.data }], guard := none }) (v := ?v1_204) rfl (by kernel_rfl) (by kernel_rfl) (by kernel_rfl) (fun _ _ _ h => h) (Or.inl ⟨by rfl, ?hy1_204⟩) (by assumption) ?rest1_204
  case hy1_204 =>
    intro w' hSw
    try dsimp only at hSw
    go_simp
    try with_reducible rfl
  try simp only [Act.put, List.setIfInBounds_toArray, List.set_cons_zero, List.set_cons_succ]
  refine wpAnyH_take (i := 3) (oi := { dst := some 89, op := Go.Op.move (Go.Operand.tmp 0), type := 9, pos := "ref.go:48", after := #[], guard := none }) (v := ?v3_205) rfl (by kernel_rfl) (by kernel_rfl) (by kernel_rfl) (fun _ _ _ h => h) (Or.inl ⟨by rfl, ?hy3_205⟩) (by assumption) ?rest3_205
  case hy3_205 =>
    intro w' hSw
    try dsimp only at hSw
    go_simp
    try with_reducible rfl
  try simp only [Act.put, List.setIfInBounds_toArray, List.set_cons_zero, List.set_cons_succ]
  refine wpAnyH_take (i := 4) (oi := { dst := some 90, op := Go.Op.slice 9 (Go.Operand.tmp 89) (some (Go.Operand.const (Go.Value.int Go.IntKind.i64 14))) (some (Go.Operand.const (Go.Value.int Go.IntKind.i64 16))) none, type := 9, pos := "ref.go:48", after := #[{ on := 3, ground := Go.Ground.data }], guard := none }) (v := ?v4_206) rfl (by kernel_rfl) (by kernel_rfl) (by kernel_rfl) (fun _ _ _ h => h) (Or.inl ⟨by rfl, ?hy4_206⟩) (by assumption) ?rest4_206
  case hy4_206 =>
    intro w' hSw
    try dsimp only at hSw
    go_simp
    try with_reducible rfl
  try simp only [Act.put, List.setIfInBounds_toArray, List.set_cons_zero, List.set_cons_succ]
  refine wpAnyH_ready (rs := [2]) (by kernel_rfl) (by simp) ?_
  refine AllReadyH.cons (o := { dst := some 88, op := Go.Op.call { callee := Go.Callee.value (Go.Operand.func 16), args := #[Go.Operand.tmp 87], argTypes := #[9] }, type := 3, pos := "ref.go:48", after := #[{ on := 1, ground := Go.Ground.data }], guard := none }) rfl (fun K hK => ?_) AllReadyH.nil
  go_simp
  refine (KLX.out _).mono ?_
  rintro e w' ⟨rfl, rfl⟩
  try go_wp2_with fail
  refine hK.out _ _ ?_ (fun hHeld2 => ?_)
  · first | exact trivial | go_keep
  clear hHeld
  have hHeld := hHeld2
  clear hK K hHeld2
  try simp only [Act.put, List.setIfInBounds_toArray, List.set_cons_zero, List.set_cons_succ]
  refine wpAnyH_take (i := 6) (oi := { dst := some 92, op := Go.Op.fieldAddr 30 (Go.Operand.tmp 4) 6, type := 0, pos := "ref.go:48", after := #[{ on := 0, ground := Go.Ground.phase }, { on := 1, ground := Go.Ground.phase }, { on := 2, ground := Go.Ground.phase }, { on := 3, ground := Go.Ground.textOnly Go.Departure.lateStores }, { on := 4, ground := Go.Ground.textOnly Go.Departure.lateStoresUnsure }, { on := 5, ground := Go.Ground.textOnly Go.Departure.lateStoresUnsure }], guard := none }) (v := ?v6_207) rfl (by kernel_rfl) (by kernel_rfl) (by kernel_rfl) (fun _ _ _ h => h) (Or.inl ⟨by rfl, ?hy6_207⟩) (by assumption) ?rest6_207
  case hy6_207 =>
    intro w' hSw
    try dsimp only at hSw
    go_simp
    try with_reducible rfl
  try simp only [Act.put, List.setIfInBounds_toArray, List.set_cons_zero, List.set_cons_succ]
  refine wpAnyH_ready (rs := [5]) (by kernel_rfl) (by simp) ?_
  refine AllReadyH.cons (o := { dst := some 91, op := Go.Op.call { callee := Go.Callee.value (Go.Operand.func 16), args := #[Go.Operand.tmp 90], argTypes := #[9] }, type := 3, pos := "ref.go:48", after := #[{ on := 4, ground := Go.Ground.data }, { on := 2, ground := Go.Ground.chain }], guard := none }) rfl (fun K hK => ?_) AllReadyH.nil
  go_simp
  refine (KLY.out _).mono ?_
  rintro e w' ⟨rfl, rfl⟩
  try go_wp2_with fail
  refine hK.out _ _ ?_ (fun hHeld2 => ?_)
  · first | exact trivial | go_keep
  clear hHeld
  have hHeld := hHeld2
  clear hK K hHeld2
  try simp only [Act.put, List.setIfInBounds_toArray, List.set_cons_zero, List.set_cons_succ]
  refine wpAnyH_ready (rs := [7]) (by kernel_rfl) (by simp) ?_
  refine AllReadyH.cons (o := { dst := none, op := Go.Op.store 3 (Go.Operand.tmp 92) (Go.Operand.tmp 88), type := 0, pos := "ref.go:48", after := #[{ on := 6, ground := Go.Ground.data }, { on := 2, ground := Go.Ground.data }, { on := 5, ground := Go.Ground.chain }, { on := 0, ground := Go.Ground.phase }, { on := 1, ground := Go.Ground.phase }, { on := 2, ground := Go.Ground.phase }, { on := 3, ground := Go.Ground.textOnly Go.Departure.lateStores }, { on := 4, ground := Go.Ground.textOnly Go.Departure.lateStoresUnsure }, { on := 5, ground := Go.Ground.textOnly Go.Departure.lateStoresUnsure }], guard := none }) rfl (fun K hK => ?_) AllReadyH.nil
  go_simp
  refine hK.out _ _ ?_ (fun hHeld2 => ?_)
  · first | exact trivial | go_keep
  clear hHeld
  have hHeld := hHeld2
  clear hK K hHeld2
  try simp only [Act.put, List.setIfInBounds_toArray, List.set_cons_zero, List.set_cons_succ]
  refine wpAnyH_take (i := 8) (oi := { dst := some 93, op := Go.Op.fieldAddr 30 (Go.Operand.tmp 4) 7, type := 0, pos := "ref.go:48", after := #[{ on := 0, ground := Go.Ground.phase }, { on := 1, ground := Go.Ground.phase }, { on := 2, ground := Go.Ground.phase }, { on := 3, ground := Go.Ground.phase }, { on := 4, ground := Go.Ground.phase }, { on := 5, ground := Go.Ground.phase }, { on := 6, ground := Go.Ground.phase }, { on := 7, ground := Go.Ground.phase }], guard := none }) (v := ?v8_208) rfl (by kernel_rfl) (by kernel_rfl) (by kernel_rfl) (fun _ _ _ h => h) (Or.inl ⟨by rfl, ?hy8_208⟩) (by assumption) ?rest8_208
  case hy8_208 =>
    intro w' hSw
    try dsimp only at hSw
    go_simp
    try with_reducible rfl
  try simp only [Act.put, List.setIfInBounds_toArray, List.set_cons_zero, List.set_cons_succ]
  refine wpAnyH_ready (rs := [9]) (by kernel_rfl) (by simp) ?_
  refine AllReadyH.cons (o := { dst := none, op := Go.Op.store 3 (Go.Operand.tmp 93) (Go.Operand.tmp 91), type := 0, pos := "ref.go:48", after := #[{ on := 8, ground := Go.Ground.data }, { on := 5, ground := Go.Ground.data }, { on := 7, ground := Go.Ground.chain }, { on := 0, ground := Go.Ground.phase }, { on := 1, ground := Go.Ground.phase }, { on := 2, ground := Go.Ground.phase }, { on := 3, ground := Go.Ground.phase }, { on := 4, ground := Go.Ground.phase }, { on := 5, ground := Go.Ground.phase }, { on := 6, ground := Go.Ground.phase }, { on := 7, ground := Go.Ground.phase }], guard := none }) rfl (fun K hK => ?_) AllReadyH.nil
  go_simp
  refine hK.out _ _ ?_ (fun hHeld2 => ?_)
  · first | exact trivial | go_keep
  clear hHeld
  have hHeld := hHeld2
  clear hK K hHeld2
  try simp only [Act.put, List.setIfInBounds_toArray, List.set_cons_zero, List.set_cons_succ]
  refine wpAnyH_done (by kernel_rfl) ?_ _
  refine abs_w (R := RI W bx #[.int .i64 x0, .int .i64 1, .int .i64 2, .int .i64 A, .int .i64 B, .int .i64 x7, .int .i64 X, .int .i64 Y, .int .i64 0, .int .i64 0, .bool false, .bool false, .int .i64 0, .int .i64 0]) ?_ (fun w4 I => ?_)
  · refine ⟨?_, ?_, HEB.out, ?_⟩
    · exact blk_other (blk_other HRES.out HNE.out) HNE.out
    · exact blk_set (blk_set HRI.out.hd 6 (.int .i64 X)) 7 (.int .i64 Y)
    · exact gb_trans (gb_own (gb_own HGB.out HLE.out (gb_set _ _ _ _)) HLE.out (gb_set _ _ _ _)) (gb_drew _ _)
  clear a0 a1 a2 a3 a4 a5 a6 a7 a8 a9 a10 a11 a12 a13
  clear fa6 fa7 HRI HRES HGB hlx d4
  have a0 : w4.cell? ⟨bx, 0, none⟩ = some (.int .i64 x0) := blk_cell I.hd 0
  have a1 : w4.cell? ⟨bx, 1, none⟩ = some (.int .i64 1) := blk_cell I.hd 1
  have a2 : w4.cell? ⟨bx, 2, none⟩ = some (.int .i64 2) := blk_cell I.hd 2
  have a3 : w4.cell? ⟨bx, 3, none⟩ = some (.int .i64 A) := blk_cell I.hd 3
  have a4 : w4.cell? ⟨bx, 4, none⟩ = some (.int .i64 B) := blk_cell I.hd 4
  have a5 : w4.cell? ⟨bx, 5, none⟩ = some (.int .i64 x7) := blk_cell I.hd 5
  have a6 : w4.cell? ⟨bx, 6, none⟩ = some (.int .i64 X) := blk_cell I.hd 6
  have a7 : w4.cell? ⟨bx, 7, none⟩ = some (.int .i64 Y) := blk_cell I.hd 7
  have a8 : w4.cell? ⟨bx, 8, none⟩ = some (.int .i64 0) := blk_cell I.hd 8
  have a9 : w4.cell? ⟨bx, 9, none⟩ = some (.int .i64 0) := blk_cell I.hd 9
  have a10 : w4.cell? ⟨bx, 10, none⟩ = some (.bool false) := blk_cell I.hd 10
  have a11 : w4.cell? ⟨bx, 11, none⟩ = some (.bool false) := blk_cell I.hd 11
  have a12 : w4.cell? ⟨bx, 12, none⟩ = some (.int .i64 0) := blk_cell I.hd 12
  have a13 : w4.cell? ⟨bx, 13, none⟩ = some (.int .i64 0) := blk_cell I.hd 13
  have fa8 := blk_free I.hd 8
  have HRI := Lib.hid I
  have HRES := Lib.hid I.res
  have HGB := Lib.hid I.gb
  have hlx := blk_lt I.hd
  clear I
  go_upto_region 18 with fail
  have hck : ck s 5 = false := HC.out.no 5 (by omega)
  have d5 : ((X : Int) == 0) = false := by have h := hck; simp only [ck, HX.out] at h; rw [beq_eq_false_iff_ne]; simp at h; omega
  clear hck
  go_upto_region 20 with fail
  have hck : ck s 6 = false := HC.out.no 6 (by omega)
  have d6 : ¬ (16384 : Int) < X := by have h := hck; simp only [ck, HX.out] at h; simp at h; omega
  clear hck
  go_upto_region 22 with fail
  have hck : ck s 7 = false := HC.out.no 7 (by omega)
  have d7 : ((Y : Int) == 0) = false := by have h := hck; simp only [ck, HY.out] at h; rw [beq_eq_false_iff_ne]; simp at h; omega
  clear hck
  go_upto_region 24 with fail
  have hck : ck s 8 = false := HC.out.no 8 (by omega)
  have d8 : ¬ (16384 : Int) < Y := by have h := hck; simp only [ck, HY.out] at h; simp at h; omega
  clear hck
  go_upto_region 27 with fail
  clear d5 d6 d7 d8
  refine abs_w (R := RI W bx #[.int .i64 x0, .int .i64 1, .int .i64 2, .int .i64 A, .int .i64 B, .int .i64 x7, .int .i64 X, .int .i64 Y, .int .i64 16, .int .i64 0, .bool false, .bool false, .int .i64 0, .int .i64 0]) ?_ (fun w5 I => ?_)
  · refine ⟨?_, ?_, HEB.out, ?_⟩
    · exact blk_other HRES.out HNE.out
    · exact blk_set HRI.out.hd 8 (.int .i64 16)
    · exact gb_own HGB.out HLE.out (gb_set _ _ _ _)
  clear a0 a1 a2 a3 a4 a5 a6 a7 a8 a9 a10 a11 a12 a13
  clear fa8 HRI HRES HGB hlx
  have a0 : w5.cell? ⟨bx, 0, none⟩ = some (.int .i64 x0) := blk_cell I.hd 0
  have a1 : w5.cell? ⟨bx, 1, none⟩ = some (.int .i64 1) := blk_cell I.hd 1
  have a2 : w5.cell? ⟨bx, 2, none⟩ = some (.int .i64 2) := blk_cell I.hd 2
  have a3 : w5.cell? ⟨bx, 3, none⟩ = some (.int .i64 A) := blk_cell I.hd 3
  have a4 : w5.cell? ⟨bx, 4, none⟩ = some (.int .i64 B) := blk_cell I.hd 4
  have a5 : w5.cell? ⟨bx, 5, none⟩ = some (.int .i64 x7) := blk_cell I.hd 5
  have a6 : w5.cell? ⟨bx, 6, none⟩ = some (.int .i64 X) := blk_cell I.hd 6
  have a7 : w5.cell? ⟨bx, 7, none⟩ = some (.int .i64 Y) := blk_cell I.hd 7
  have a8 : w5.cell? ⟨bx, 8, none⟩ = some (.int .i64 16) := blk_cell I.hd 8
  have a9 : w5.cell? ⟨bx, 9, none⟩ = some (.int .i64 0) := blk_cell I.hd 9
  have a10 : w5.cell? ⟨bx, 10, none⟩ = some (.bool false) := blk_cell I.hd 10
  have a11 : w5.cell? ⟨bx, 11, none⟩ = some (.bool false) := blk_cell I.hd 11
  have a12 : w5.cell? ⟨bx, 12, none⟩ = some (.int .i64 0) := blk_cell I.hd 12
  have a13 : w5.cell? ⟨bx, 13, none⟩ = some (.int .i64 0) := blk_cell I.hd 13
  have fa9 := blk_free I.hd 9
  have HRI := Lib.hid I
  have HRES := Lib.hid I.res
  have HGB := Lib.hid I.gb
  have hlx := blk_lt I.hd
  clear I
  have KC16 := fun u => rcolor_calls 16 u
  have hcol : colB 16 = true := by
    have h : (!(dpB (bn s 16) (bn s 2))) = false := HC.out.no 9 (by omega)
    rw [HX16.out, HX2.out] at h
    have e : dpB 16 2 = colB 16 := by unfold dpB pln; rfl
    rw [e] at h
    simpa using h
  simp only [hcol] at KC16
  have KC16 := Lib.hid KC16
  clear hcol
  go_wp2_with fail
  refine (KC16.out _).mono ?_
  rintro e w' ⟨rfl, rfl⟩
  go_upto_region 30 with fail
  have hck : ck s 10 = false := HC.out.no 10 (by omega)
  have d10 : ¬ (64 : Int) ≤ x17 := by have h := hck; simp only [ck, HX17.out] at h; simp at h; omega
  clear hck
  go_upto_region 33 with fail
  clear d10
  refine abs_w (R := RI W bx #[.int .i64 x0, .int .i64 1, .int .i64 2, .int .i64 A, .int .i64 B, .int .i64 x7, .int .i64 X, .int .i64 Y, .int .i64 16, .int .i64 1, .bool false, .bool false, .int .i64 0, .int .i64 0]) ?_ (fun w6 I => ?_)
  · refine ⟨?_, ?_, HEB.out, ?_⟩
    · exact blk_other HRES.out HNE.out
    · exact blk_set HRI.out.hd 9 (.int .i64 1)
    · exact gb_own HGB.out HLE.out (gb_set _ _ _ _)
  clear a0 a1 a2 a3 a4 a5 a6 a7 a8 a9 a10 a11 a12 a13
  clear fa9 HRI HRES HGB hlx
  have a0 : w6.cell? ⟨bx, 0, none⟩ = some (.int .i64 x0) := blk_cell I.hd 0
  have a1 : w6.cell? ⟨bx, 1, none⟩ = some (.int .i64 1) := blk_cell I.hd 1
  have a2 : w6.cell? ⟨bx, 2, none⟩ = some (.int .i64 2) := blk_cell I.hd 2
  have a3 : w6.cell? ⟨bx, 3, none⟩ = some (.int .i64 A) := blk_cell I.hd 3
  have a4 : w6.cell? ⟨bx, 4, none⟩ = some (.int .i64 B) := blk_cell I.hd 4
  have a5 : w6.cell? ⟨bx, 5, none⟩ = some (.int .i64 x7) := blk_cell I.hd 5
  have a6 : w6.cell? ⟨bx, 6, none⟩ = some (.int .i64 X) := blk_cell I.hd 6
  have a7 : w6.cell? ⟨bx, 7, none⟩ = some (.int .i64 Y) := blk_cell I.hd 7
  have a8 : w6.cell? ⟨bx, 8, none⟩ = some (.int .i64 16) := blk_cell I.hd 8
  have a9 : w6.cell? ⟨bx, 9, none⟩ = some (.int .i64 1) := blk_cell I.hd 9
  have a10 : w6.cell? ⟨bx, 10, none⟩ = some (.bool false) := blk_cell I.hd 10
  have a11 : w6.cell? ⟨bx, 11, none⟩ = some (.bool false) := blk_cell I.hd 11
  have a12 : w6.cell? ⟨bx, 12, none⟩ = some (.int .i64 0) := blk_cell I.hd 12
  have a13 : w6.cell? ⟨bx, 13, none⟩ = some (.int .i64 0) := blk_cell I.hd 13
  have fa10 := blk_free I.hd 10
  have fa11 := blk_free I.hd 11
  have HRI := Lib.hid I
  have HRES := Lib.hid I.res
  have HGB := Lib.hid I.gb
  have hlx := blk_lt I.hd
  clear I
  go_upto_region 37 with fail
  refine abs_w (R := RI W bx #[.int .i64 x0, .int .i64 1, .int .i64 2, .int .i64 A, .int .i64 B, .int .i64 x7, .int .i64 X, .int .i64 Y, .int .i64 16, .int .i64 1, .bool lf, .bool tp, .int .i64 0, .int .i64 0]) ?_ (fun w7 I => ?_)
  · refine ⟨?_, ?_, HEB.out, ?_⟩
    · exact blk_other (blk_other HRES.out HNE.out) HNE.out
    · exact blk_set (blk_set HRI.out.hd 10 (.bool lf)) 11 (.bool tp)
    · exact gb_own (gb_own HGB.out HLE.out (gb_set _ _ _ _)) HLE.out (gb_set _ _ _ _)
  clear a0 a1 a2 a3 a4 a5 a6 a7 a8 a9 a10 a11 a12 a13
  clear fa10 fa11 HRI HRES HGB hlx
  have a0 : w7.cell? ⟨bx, 0, none⟩ = some (.int .i64 x0) := blk_cell I.hd 0
  have a1 : w7.cell? ⟨bx, 1, none⟩ = some (.int .i64 1) := blk_cell I.hd 1
  have a2 : w7.cell? ⟨bx, 2, none⟩ = some (.int .i64 2) := blk_cell I.hd 2
  have a3 : w7.cell? ⟨bx, 3, none⟩ = some (.int .i64 A) := blk_cell I.hd 3
  have a4 : w7.cell? ⟨bx, 4, none⟩ = some (.int .i64 B) := blk_cell I.hd 4
  have a5 : w7.cell? ⟨bx, 5, none⟩ = some (.int .i64 x7) := blk_cell I.hd 5
  have a6 : w7.cell? ⟨bx, 6, none⟩ = some (.int .i64 X) := blk_cell I.hd 6
  have a7 : w7.cell? ⟨bx, 7, none⟩ = some (.int .i64 Y) := blk_cell I.hd 7
  have a8 : w7.cell? ⟨bx, 8, none⟩ = some (.int .i64 16) := blk_cell I.hd 8
  have a9 : w7.cell? ⟨bx, 9, none⟩ = some (.int .i64 1) := blk_cell I.hd 9
  have a10 : w7.cell? ⟨bx, 10, none⟩ = some (.bool lf) := blk_cell I.hd 10
  have a11 : w7.cell? ⟨bx, 11, none⟩ = some (.bool tp) := blk_cell I.hd 11
  have a12 : w7.cell? ⟨bx, 12, none⟩ = some (.int .i64 0) := blk_cell I.hd 12
  have a13 : w7.cell? ⟨bx, 13, none⟩ = some (.int .i64 0) := blk_cell I.hd 13
  have r0 : w7.cell? ⟨W.heap.size, 0, none⟩ = some (.int .i64 0) := blk_cell I.res 0
  have rf0 := blk_free I.res 0
  have r1 : w7.cell? ⟨W.heap.size, 1, none⟩ = some (.int .i64 0) := blk_cell I.res 1
  have rf1 := blk_free I.res 1
  have r2 : w7.cell? ⟨W.heap.size, 2, none⟩ = some (.int .i64 0) := blk_cell I.res 2
  have rf2 := blk_free I.res 2
  have r3 : w7.cell? ⟨W.heap.size, 3, none⟩ = some (.int .i64 0) := blk_cell I.res 3
  have rf3 := blk_free I.res 3
  have r4 : w7.cell? ⟨W.heap.size, 4, none⟩ = some (.int .i64 0) := blk_cell I.res 4
  have rf4 := blk_free I.res 4
  have r5 : w7.cell? ⟨W.heap.size, 5, none⟩ = some (.int .i64 0) := blk_cell I.res 5
  have rf5 := blk_free I.res 5
  have r6 : w7.cell? ⟨W.heap.size, 6, none⟩ = some (.int .i64 0) := blk_cell I.res 6
  have rf6 := blk_free I.res 6
  have r7 : w7.cell? ⟨W.heap.size, 7, none⟩ = some (.int .i64 0) := blk_cell I.res 7
  have rf7 := blk_free I.res 7
  have r8 : w7.cell? ⟨W.heap.size, 8, none⟩ = some (.int .i64 0) := blk_cell I.res 8
  have rf8 := blk_free I.res 8
  have r9 : w7.cell? ⟨W.heap.size, 9, none⟩ = some (.int .i64 0) := blk_cell I.res 9
  have rf9 := blk_free I.res 9
  have r10 : w7.cell? ⟨W.heap.size, 10, none⟩ = some (.bool false) := blk_cell I.res 10
  have rf10 := blk_free I.res 10
  have r11 : w7.cell? ⟨W.heap.size, 11, none⟩ = some (.bool false) := blk_cell I.res 11
  have rf11 := blk_free I.res 11
  have r12 : w7.cell? ⟨W.heap.size, 12, none⟩ = some (.int .i64 0) := blk_cell I.res 12
  have rf12 := blk_free I.res 12
  have r13 : w7.cell? ⟨W.heap.size, 13, none⟩ = some (.int .i64 0) := blk_cell I.res 13
  have rf13 := blk_free I.res 13
  have hlr := blk_lt I.res
  have hlx := blk_lt I.hd
  have G9 := Lib.hid I.gb
  have E := Lib.hid (show RV = #[.int .i64 x0, .int .i64 1, .int .i64 2, .int .i64 A, .int .i64 B, .int .i64 x7, .int .i64 X, .int .i64 Y, .int .i64 16, .int .i64 1, .bool lf, .bool tp, .int .i64 0, .int .i64 0] from by rw [← ERV.out]; exact HGOOD.out)
  clear I
  go_wp2
  refine bodyPost_ret (v := .agg #[.int .i64 x0, .int .i64 1, .int .i64 2, .int .i64 A, .int .i64 B, .int .i64 x7, .int .i64 X, .int .i64 Y, .int .i64 16, .int .i64 1, .bool lf, .bool tp, .int .i64 0, .int .i64 0]) (by simp only [results, Try.results7]; go_simp) rfl ⟨by rw [E.out], ?_⟩
  exact gb_own (gb_own (gb_own (gb_own (gb_own (gb_own (gb_own (gb_own (gb_own (gb_own (gb_own (gb_own (gb_own (gb_own (G9.out) (Nat.le_refl _) (gb_set _ _ _ _)) (Nat.le_refl _) (gb_set _ _ _ _)) (Nat.le_refl _) (gb_set _ _ _ _)) (Nat.le_refl _) (gb_set _ _ _ _)) (Nat.le_refl _) (gb_set _ _ _ _)) (Nat.le_refl _) (gb_set _ _ _ _)) (Nat.le_refl _) (gb_set _ _ _ _)) (Nat.le_refl _) (gb_set _ _ _ _)) (Nat.le_refl _) (gb_set _ _ _ _)) (Nat.le_refl _) (gb_set _ _ _ _)) (Nat.le_refl _) (gb_set _ _ _ _)) (Nat.le_refl _) (gb_set _ _ _ _)) (Nat.le_refl _) (gb_set _ _ _ _)) (Nat.le_refl _) (gb_set _ _ _ _)



end Go.Proofs.Ytgkeopgccocmkaa.Tg
