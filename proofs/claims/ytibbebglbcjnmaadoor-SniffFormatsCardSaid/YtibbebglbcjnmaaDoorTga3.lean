/- Layer 16: a head's fields, walked (written by tga3.py: the regions by hand). -/
import Derived.Test.YtibbebglbcjnmaaDoorTga2
import Derived.Deep.RegionHeld3
namespace Go.Proofs.YtibbebglbcjnmaaDoor.Tg
open Go.ChangeShapes Go.WideShapes Go.ChangeAt Go.RowKit
open Go.Proofs.YtibbebglbcjnmaaDoor.Le Go.Proofs.YtibbebglbcjnmaaDoor.Sr
set_option linter.unusedVariables false

theorem and_lit (f : Nat) (hf : f < 256) (m : Nat) (hm : m < 256) : bits .and .i64 (f : Int) (m : Int) = ((f &&& m : Nat) : Int) := by
  have h1 : (BitVec.ofInt 64 (f : Int)).toNat = f := by rw [BitVec.ofInt_natCast, BitVec.toNat_ofNat]; exact Nat.mod_eq_of_lt (by omega)
  have h2 : (BitVec.ofInt 64 (m : Int)).toNat = m := by rw [BitVec.ofInt_natCast, BitVec.toNat_ofNat]; exact Nat.mod_eq_of_lt (by omega)
  have h3 := @Nat.and_le_left f m
  unfold bits
  show IntKind.i64.wrap (((BitVec.ofInt 64 (f : Int)) &&& (BitVec.ofInt 64 (m : Int))).toNat : Int) = _
  rw [BitVec.toNat_and, h1, h2, IntKind.wrap_i64]
  omega
set_option maxRecDepth 100000 in
theorem and15 : ∀ f : Nat, f < 256 → f &&& 15 = f % 16 := by decide
set_option maxRecDepth 100000 in
theorem and16 : ∀ f : Nat, f < 256 → (((f &&& 16 : Nat) : Int) != 0) = decide (f / 16 % 2 = 1) := by decide
set_option maxRecDepth 100000 in
theorem and32 : ∀ f : Nat, f < 256 → (((f &&& 32 : Nat) : Int) != 0) = decide (f / 32 % 2 = 1) := by decide

theorem drewN_set (w : World) (k : Nat) (a : Addr) (v : Value) : (w.drewN k).setCell a v = (w.setCell a v).drewN k := by
  unfold World.setCell World.drewN
  simp only
theorem abs_w {Q R : World → Prop} {w : World} (h : R w) (k : ∀ w', R w' → Q w') : Q w := k w h

theorem dn_blk {w : World} {k b : Nat} {x : Option Obj} (h : w.heap[b]? = x) : (w.drewN k).heap[b]? = x := h

def hV (x0 : Int) (mp : Bool) (x2 a b c X Y x16 al : Int) (lf tp : Bool) : Array Value := #[.int .i64 x0, .bool mp, .int .i64 x2, .int .i64 a, .int .i64 b, .int .i64 c, .int .i64 X, .int .i64 Y, .int .i64 x16, .int .i64 al, .bool lf, .bool tp]
/-- The result's cell, and the head's, behind the literal. -/
structure FR (W w : World) (b : Nat) (v : Array Value) : Prop where
  res : w.heap[W.heap.size]? = some (.cells #[.int .i64 0, .bool false, .int .i64 0, .int .i64 0, .int .i64 0, .int .i64 0, .int .i64 0, .int .i64 0, .int .i64 0, .int .i64 0, .bool false, .bool false] 47 (0, 0))
  hd : w.heap[b]? = some (.cells v 47 (0, 0))
  eb : b = W.heap.size + 1
  gb : W.grownBy w none
theorem FR_res {w1 : World} {b k : Nat} {o v : Obj} (h : w1.heap[b]? = some v) : ((w1.alloc o).drewN k).heap[b]? = some v := blk_al h _
theorem FR_new {w1 : World} {b k : Nat} {o : Obj} (h : w1.heap.size = b) : ((w1.alloc o).drewN k).heap[b]? = some o := h ▸ blk_at (w := w1)
theorem FR_gb {W w1 : World} {k : Nat} {o : Obj} (h : W.grownBy w1 none) : W.grownBy ((w1.alloc o).drewN k) none := gb_trans (gb_trans h (World.grownBy_alloc _ _ _)) (gb_drewN _ _ _)

set_option maxRecDepth 100000 in
set_option maxHeartbeats 4000000 in
theorem fields_no (s : ByteArray) (x0 x2 x16 f : Nat) (x1 al a16 a32 X Y : Int) (lf tp : Bool) (W : World) (h18 : 18 ≤ s.size) (hm : s.size ≤ 9223372036854775807) (b0 : x0 < 256) (b2 : x2 < 256) (b16 : x16 < 256) (bf : f < 256)
    (g0 : ((s[0]'(by omega)).toNat : Int) = x0) (g1 : ((s[1]'(by omega)).toNat : Int) = x1) (g2 : ((s[2]'(by omega)).toNat : Int) = x2)
    (g16 : ((s[16]'(by omega)).toNat : Int) = x16) (g17 : ((s[17]'(by omega)).toNat : Int) = f)
    (n1 : (x1 == 1) = false) (e15 : bits .and .i64 f 15 = al) (e16 : bits .and .i64 f 16 = a16) (e32 : bits .and .i64 f 32 = a32) (z16 : (a16 != 0) = lf) (z32 : (a32 != 0) = tp)
    (KX : ∀ u, Calls Tryd.prog 58 #[.string s, .int .i64 12] u fun e w' => e = .returned (.int .i64 X) ∧ ∃ n, w' = u.drewN n)
    (KY : ∀ u, Calls Tryd.prog 58 #[.string s, .int .i64 14] u fun e w' => e = .returned (.int .i64 Y) ∧ ∃ n, w' = u.drewN n) :
    Calls Tryd.prog 39 #[.string s] W fun e w' => e = .returned (.agg #[.int .i64 x0, .bool false, .int .i64 x2, .int .i64 0, .int .i64 0, .int .i64 0, .int .i64 X, .int .i64 Y, .int .i64 x16, .int .i64 al, .bool lf, .bool tp]) ∧ W.grownBy w' none := by
  have i0 : 0 < s.size := by omega
  have i1 : (1 : Int) < (s.size : Int) := by omega
  have i2 : (2 : Int) < (s.size : Int) := by omega
  have i16 : (16 : Int) < (s.size : Int) := by omega
  have i17 : (17 : Int) < (s.size : Int) := by omega
  have v0 : IntKind.i64.wrap (x0 : Int) = x0 := by rw [IntKind.wrap_i64]; omega
  have v2 : IntKind.i64.wrap (x2 : Int) = x2 := by rw [IntKind.wrap_i64]; omega
  have v16 : IntKind.i64.wrap (x16 : Int) = x16 := by rw [IntKind.wrap_i64]; omega
  have HKX := Lib.hid KX
  have HKY := Lib.hid KY
  clear KX KY
  go_enter Tryd.func39, Tryd.ntmps39
  go_wp2_with fail
  have hR : (W.alloc (.cells #[.int .i64 0, .bool false, .int .i64 0, .int .i64 0, .int .i64 0, .int .i64 0, .int .i64 0, .int .i64 0, .int .i64 0, .int .i64 0, .bool false, .bool false] 47)).heap[W.heap.size]? = some (.cells #[.int .i64 0, .bool false, .int .i64 0, .int .i64 0, .int .i64 0, .int .i64 0, .int .i64 0, .int .i64 0, .int .i64 0, .int .i64 0, .bool false, .bool false] 47 (0, 0)) := blk_at
  have hG := World.grownBy_alloc W (.cells #[.int .i64 0, .bool false, .int .i64 0, .int .i64 0, .int .i64 0, .int .i64 0, .int .i64 0, .int .i64 0, .int .i64 0, .int .i64 0, .bool false, .bool false] 47) none
  have hZ := size_alloc W (.cells #[.int .i64 0, .bool false, .int .i64 0, .int .i64 0, .int .i64 0, .int .i64 0, .int .i64 0, .int .i64 0, .int .i64 0, .int .i64 0, .bool false, .bool false] 47)
  generalize W.alloc (.cells #[.int .i64 0, .bool false, .int .i64 0, .int .i64 0, .int .i64 0, .int .i64 0, .int .i64 0, .int .i64 0, .int .i64 0, .int .i64 0, .bool false, .bool false] 47) = w1 at hR hG hZ ⊢
  have HR := Lib.hid hR
  have HG := Lib.hid hG
  have HZ := Lib.hid hZ
  clear hR hG hZ
  have hc1 : ∀ (w : World) (k : Nat) (o : Obj), (w.drewN k).alloc o = (w.alloc o).drewN k := fun _ _ _ => rfl
  have hc2 : ∀ (w : World) (k : Nat) (a : Addr) (v : Value), (w.drewN k).setCell a v = (w.setCell a v).drewN k := drewN_set
  refine wp_region_held_drew (S := fun _ => True) (by kernel_rfl) ?_ (fun hHeld => ?_)
  · first | exact trivial | go_keep
  refine wpAnyH_take (i := 0) (oi := { dst := some 8, op := Go.Op.move (Go.Operand.tmp 0), type := 9, pos := "tgahead.go:160", after := #[], guard := none }) (v := ?v0_1) rfl (by kernel_rfl) (by kernel_rfl) (by kernel_rfl) (fun _ _ _ h => h) (Or.inl ⟨by rfl, ?hy0_1⟩) (by assumption) ?rest0_1
  case hy0_1 =>
    intro w' hSw
    try dsimp only at hSw
    go_simp
    try with_reducible rfl
  try simp only [Act.put, List.setIfInBounds_toArray, List.set_cons_zero, List.set_cons_succ]
  refine wpAnyH_take (i := 1) (oi := { dst := some 9, op := Go.Op.index 9 (Go.Operand.tmp 8) (Go.Operand.const (Go.Value.int Go.IntKind.i64 0)), type := 5, pos := "tgahead.go:160", after := #[{ on := 0, ground := Go.Ground.data }], guard := none }) (v := ?v1_2) rfl (by kernel_rfl) (by kernel_rfl) (by kernel_rfl) (fun _ _ _ h => h) (Or.inl ⟨by rfl, ?hy1_2⟩) (by assumption) ?rest1_2
  case hy1_2 =>
    intro w' hSw
    try dsimp only at hSw
    go_simp
    try with_reducible rfl
  try simp only [Act.put, List.setIfInBounds_toArray, List.set_cons_zero, List.set_cons_succ]
  refine wpAnyH_take (i := 2) (oi := { dst := some 10, op := Go.Op.convert 5 3 (Go.Operand.tmp 9), type := 3, pos := "tgahead.go:160", after := #[{ on := 1, ground := Go.Ground.data }], guard := none }) (v := ?v2_3) rfl (by kernel_rfl) (by kernel_rfl) (by kernel_rfl) (fun _ _ _ h => h) (Or.inl ⟨by rfl, ?hy2_3⟩) (by assumption) ?rest2_3
  case hy2_3 =>
    intro w' hSw
    try dsimp only at hSw
    go_simp
    try with_reducible rfl
  try simp only [Act.put, List.setIfInBounds_toArray, List.set_cons_zero, List.set_cons_succ]
  refine wpAnyH_take (i := 3) (oi := { dst := some 11, op := Go.Op.move (Go.Operand.tmp 0), type := 9, pos := "tgahead.go:160", after := #[], guard := none }) (v := ?v3_4) rfl (by kernel_rfl) (by kernel_rfl) (by kernel_rfl) (fun _ _ _ h => h) (Or.inl ⟨by rfl, ?hy3_4⟩) (by assumption) ?rest3_4
  case hy3_4 =>
    intro w' hSw
    try dsimp only at hSw
    go_simp
    try with_reducible rfl
  try simp only [Act.put, List.setIfInBounds_toArray, List.set_cons_zero, List.set_cons_succ]
  refine wpAnyH_take (i := 4) (oi := { dst := some 12, op := Go.Op.index 9 (Go.Operand.tmp 11) (Go.Operand.const (Go.Value.int Go.IntKind.i64 1)), type := 5, pos := "tgahead.go:160", after := #[{ on := 3, ground := Go.Ground.data }], guard := none }) (v := ?v4_5) rfl (by kernel_rfl) (by kernel_rfl) (by kernel_rfl) (fun _ _ _ h => h) (Or.inl ⟨by rfl, ?hy4_5⟩) (by assumption) ?rest4_5
  case hy4_5 =>
    intro w' hSw
    try dsimp only at hSw
    go_simp
    try with_reducible rfl
  try simp only [Act.put, List.setIfInBounds_toArray, List.set_cons_zero, List.set_cons_succ]
  refine wpAnyH_take (i := 5) (oi := { dst := some 13, op := Go.Op.binOp Go.BinOp.eql 5 (Go.Operand.tmp 12) (Go.Operand.const (Go.Value.int Go.IntKind.u8 1)) 5, type := 4, pos := "tgahead.go:160", after := #[{ on := 4, ground := Go.Ground.data }], guard := none }) (v := ?v5_6) rfl (by kernel_rfl) (by kernel_rfl) (by kernel_rfl) (fun _ _ _ h => h) (Or.inl ⟨by rfl, ?hy5_6⟩) (by assumption) ?rest5_6
  case hy5_6 =>
    intro w' hSw
    try dsimp only at hSw
    go_simp
    try with_reducible rfl
  try simp only [Act.put, List.setIfInBounds_toArray, List.set_cons_zero, List.set_cons_succ]
  refine wpAnyH_take (i := 6) (oi := { dst := some 14, op := Go.Op.move (Go.Operand.tmp 0), type := 9, pos := "tgahead.go:160", after := #[], guard := none }) (v := ?v6_7) rfl (by kernel_rfl) (by kernel_rfl) (by kernel_rfl) (fun _ _ _ h => h) (Or.inl ⟨by rfl, ?hy6_7⟩) (by assumption) ?rest6_7
  case hy6_7 =>
    intro w' hSw
    try dsimp only at hSw
    go_simp
    try with_reducible rfl
  try simp only [Act.put, List.setIfInBounds_toArray, List.set_cons_zero, List.set_cons_succ]
  refine wpAnyH_take (i := 7) (oi := { dst := some 15, op := Go.Op.index 9 (Go.Operand.tmp 14) (Go.Operand.const (Go.Value.int Go.IntKind.i64 2)), type := 5, pos := "tgahead.go:160", after := #[{ on := 6, ground := Go.Ground.data }], guard := none }) (v := ?v7_8) rfl (by kernel_rfl) (by kernel_rfl) (by kernel_rfl) (fun _ _ _ h => h) (Or.inl ⟨by rfl, ?hy7_8⟩) (by assumption) ?rest7_8
  case hy7_8 =>
    intro w' hSw
    try dsimp only at hSw
    go_simp
    try with_reducible rfl
  try simp only [Act.put, List.setIfInBounds_toArray, List.set_cons_zero, List.set_cons_succ]
  refine wpAnyH_take (i := 8) (oi := { dst := some 16, op := Go.Op.convert 5 3 (Go.Operand.tmp 15), type := 3, pos := "tgahead.go:160", after := #[{ on := 7, ground := Go.Ground.data }], guard := none }) (v := ?v8_9) rfl (by kernel_rfl) (by kernel_rfl) (by kernel_rfl) (fun _ _ _ h => h) (Or.inl ⟨by rfl, ?hy8_9⟩) (by assumption) ?rest8_9
  case hy8_9 =>
    intro w' hSw
    try dsimp only at hSw
    go_simp
    try with_reducible rfl
  try simp only [Act.put, List.setIfInBounds_toArray, List.set_cons_zero, List.set_cons_succ]
  refine wpAnyH_take (i := 9) (oi := { dst := some 17, op := Go.Op.move (Go.Operand.tmp 0), type := 9, pos := "tgahead.go:160", after := #[], guard := none }) (v := ?v9_10) rfl (by kernel_rfl) (by kernel_rfl) (by kernel_rfl) (fun _ _ _ h => h) (Or.inl ⟨by rfl, ?hy9_10⟩) (by assumption) ?rest9_10
  case hy9_10 =>
    intro w' hSw
    try dsimp only at hSw
    go_simp
    try with_reducible rfl
  try simp only [Act.put, List.setIfInBounds_toArray, List.set_cons_zero, List.set_cons_succ]
  refine wpAnyH_take (i := 11) (oi := { dst := some 19, op := Go.Op.move (Go.Operand.tmp 0), type := 9, pos := "tgahead.go:160", after := #[], guard := none }) (v := ?v11_11) rfl (by kernel_rfl) (by kernel_rfl) (by kernel_rfl) (fun _ _ _ h => h) (Or.inl ⟨by rfl, ?hy11_11⟩) (by assumption) ?rest11_11
  case hy11_11 =>
    intro w' hSw
    try dsimp only at hSw
    go_simp
    try with_reducible rfl
  try simp only [Act.put, List.setIfInBounds_toArray, List.set_cons_zero, List.set_cons_succ]
  refine wpAnyH_take (i := 13) (oi := { dst := some 21, op := Go.Op.move (Go.Operand.tmp 0), type := 9, pos := "tgahead.go:160", after := #[], guard := none }) (v := ?v13_12) rfl (by kernel_rfl) (by kernel_rfl) (by kernel_rfl) (fun _ _ _ h => h) (Or.inl ⟨by rfl, ?hy13_12⟩) (by assumption) ?rest13_12
  case hy13_12 =>
    intro w' hSw
    try dsimp only at hSw
    go_simp
    try with_reducible rfl
  try simp only [Act.put, List.setIfInBounds_toArray, List.set_cons_zero, List.set_cons_succ]
  refine wpAnyH_take (i := 14) (oi := { dst := some 22, op := Go.Op.index 9 (Go.Operand.tmp 21) (Go.Operand.const (Go.Value.int Go.IntKind.i64 16)), type := 5, pos := "tgahead.go:160", after := #[{ on := 13, ground := Go.Ground.data }], guard := none }) (v := ?v14_13) rfl (by kernel_rfl) (by kernel_rfl) (by kernel_rfl) (fun _ _ _ h => h) (Or.inl ⟨by rfl, ?hy14_13⟩) (by assumption) ?rest14_13
  case hy14_13 =>
    intro w' hSw
    try dsimp only at hSw
    go_simp
    try with_reducible rfl
  try simp only [Act.put, List.setIfInBounds_toArray, List.set_cons_zero, List.set_cons_succ]
  refine wpAnyH_take (i := 15) (oi := { dst := some 23, op := Go.Op.convert 5 3 (Go.Operand.tmp 22), type := 3, pos := "tgahead.go:160", after := #[{ on := 14, ground := Go.Ground.data }], guard := none }) (v := ?v15_14) rfl (by kernel_rfl) (by kernel_rfl) (by kernel_rfl) (fun _ _ _ h => h) (Or.inl ⟨by rfl, ?hy15_14⟩) (by assumption) ?rest15_14
  case hy15_14 =>
    intro w' hSw
    try dsimp only at hSw
    go_simp
    try with_reducible rfl
  try simp only [Act.put, List.setIfInBounds_toArray, List.set_cons_zero, List.set_cons_succ]
  refine wpAnyH_take (i := 16) (oi := { dst := some 24, op := Go.Op.move (Go.Operand.tmp 3), type := 3, pos := "tgahead.go:160", after := #[], guard := none }) (v := ?v16_15) rfl (by kernel_rfl) (by kernel_rfl) (by kernel_rfl) (fun _ _ _ h => h) (Or.inl ⟨by rfl, ?hy16_15⟩) (by assumption) ?rest16_15
  case hy16_15 =>
    intro w' hSw
    try dsimp only at hSw
    go_simp
    try with_reducible rfl
  try simp only [Act.put, List.setIfInBounds_toArray, List.set_cons_zero, List.set_cons_succ]
  refine wpAnyH_take (i := 17) (oi := { dst := some 25, op := Go.Op.binOp Go.BinOp.and 3 (Go.Operand.tmp 24) (Go.Operand.const (Go.Value.int Go.IntKind.i64 15)) 3, type := 3, pos := "tgahead.go:160", after := #[{ on := 16, ground := Go.Ground.data }], guard := none }) (v := ?v17_16) rfl (by kernel_rfl) (by kernel_rfl) (by kernel_rfl) (fun _ _ _ h => h) (Or.inl ⟨by rfl, ?hy17_16⟩) (by assumption) ?rest17_16
  case hy17_16 =>
    intro w' hSw
    try dsimp only at hSw
    go_simp
    try with_reducible rfl
  try simp only [Act.put, List.setIfInBounds_toArray, List.set_cons_zero, List.set_cons_succ]
  refine wpAnyH_take (i := 18) (oi := { dst := some 26, op := Go.Op.move (Go.Operand.tmp 3), type := 3, pos := "tgahead.go:160", after := #[], guard := none }) (v := ?v18_17) rfl (by kernel_rfl) (by kernel_rfl) (by kernel_rfl) (fun _ _ _ h => h) (Or.inl ⟨by rfl, ?hy18_17⟩) (by assumption) ?rest18_17
  case hy18_17 =>
    intro w' hSw
    try dsimp only at hSw
    go_simp
    try with_reducible rfl
  try simp only [Act.put, List.setIfInBounds_toArray, List.set_cons_zero, List.set_cons_succ]
  refine wpAnyH_take (i := 19) (oi := { dst := some 27, op := Go.Op.binOp Go.BinOp.and 3 (Go.Operand.tmp 26) (Go.Operand.const (Go.Value.int Go.IntKind.i64 16)) 3, type := 3, pos := "tgahead.go:160", after := #[{ on := 18, ground := Go.Ground.data }], guard := none }) (v := ?v19_18) rfl (by kernel_rfl) (by kernel_rfl) (by kernel_rfl) (fun _ _ _ h => h) (Or.inl ⟨by rfl, ?hy19_18⟩) (by assumption) ?rest19_18
  case hy19_18 =>
    intro w' hSw
    try dsimp only at hSw
    go_simp
    try with_reducible rfl
  try simp only [Act.put, List.setIfInBounds_toArray, List.set_cons_zero, List.set_cons_succ]
  refine wpAnyH_take (i := 20) (oi := { dst := some 28, op := Go.Op.binOp Go.BinOp.neq 3 (Go.Operand.tmp 27) (Go.Operand.const (Go.Value.int Go.IntKind.i64 0)) 3, type := 4, pos := "tgahead.go:160", after := #[{ on := 19, ground := Go.Ground.data }], guard := none }) (v := ?v20_19) rfl (by kernel_rfl) (by kernel_rfl) (by kernel_rfl) (fun _ _ _ h => h) (Or.inl ⟨by rfl, ?hy20_19⟩) (by assumption) ?rest20_19
  case hy20_19 =>
    intro w' hSw
    try dsimp only at hSw
    go_simp
    try with_reducible rfl
  try simp only [Act.put, List.setIfInBounds_toArray, List.set_cons_zero, List.set_cons_succ]
  refine wpAnyH_take (i := 21) (oi := { dst := some 29, op := Go.Op.move (Go.Operand.tmp 3), type := 3, pos := "tgahead.go:160", after := #[], guard := none }) (v := ?v21_20) rfl (by kernel_rfl) (by kernel_rfl) (by kernel_rfl) (fun _ _ _ h => h) (Or.inl ⟨by rfl, ?hy21_20⟩) (by assumption) ?rest21_20
  case hy21_20 =>
    intro w' hSw
    try dsimp only at hSw
    go_simp
    try with_reducible rfl
  try simp only [Act.put, List.setIfInBounds_toArray, List.set_cons_zero, List.set_cons_succ]
  refine wpAnyH_take (i := 22) (oi := { dst := some 30, op := Go.Op.binOp Go.BinOp.and 3 (Go.Operand.tmp 29) (Go.Operand.const (Go.Value.int Go.IntKind.i64 32)) 3, type := 3, pos := "tgahead.go:160", after := #[{ on := 21, ground := Go.Ground.data }], guard := none }) (v := ?v22_21) rfl (by kernel_rfl) (by kernel_rfl) (by kernel_rfl) (fun _ _ _ h => h) (Or.inl ⟨by rfl, ?hy22_21⟩) (by assumption) ?rest22_21
  case hy22_21 =>
    intro w' hSw
    try dsimp only at hSw
    go_simp
    try with_reducible rfl
  try simp only [Act.put, List.setIfInBounds_toArray, List.set_cons_zero, List.set_cons_succ]
  refine wpAnyH_take (i := 23) (oi := { dst := some 31, op := Go.Op.binOp Go.BinOp.neq 3 (Go.Operand.tmp 30) (Go.Operand.const (Go.Value.int Go.IntKind.i64 0)) 3, type := 4, pos := "tgahead.go:160", after := #[{ on := 22, ground := Go.Ground.data }], guard := none }) (v := ?v23_22) rfl (by kernel_rfl) (by kernel_rfl) (by kernel_rfl) (fun _ _ _ h => h) (Or.inl ⟨by rfl, ?hy23_22⟩) (by assumption) ?rest23_22
  case hy23_22 =>
    intro w' hSw
    try dsimp only at hSw
    go_simp
    try with_reducible rfl
  try simp only [Act.put, List.setIfInBounds_toArray, List.set_cons_zero, List.set_cons_succ]
  refine wpAnyH_ready (rs := [10, 25]) (by kernel_rfl) (by simp) ?_
  refine AllReadyH.cons (o := { dst := some 18, op := Go.Op.call { callee := Go.Callee.value (Go.Operand.func 58), args := #[Go.Operand.tmp 17, Go.Operand.const (Go.Value.int Go.IntKind.i64 12)], argTypes := #[9, 3] }, type := 3, pos := "tgahead.go:164", after := #[{ on := 9, ground := Go.Ground.data }], guard := none }) rfl (fun K hK => ?_) ?_
  · go_simp
    refine (HKX.out _).mono ?_
    rintro e w' ⟨rfl, n1, rfl⟩
    try go_wp2_with fail
    refine hK.out _ _ ?_ (fun hHeld2 => ?_)
    · first | exact trivial | go_keep
    clear hHeld
    have hHeld := hHeld2
    clear hK K hHeld2
    try simp only [Act.put, List.setIfInBounds_toArray, List.set_cons_zero, List.set_cons_succ]
    refine wpAnyH_ready (rs := [12, 25]) (by kernel_rfl) (by simp) ?_
    refine AllReadyH.cons (o := { dst := some 20, op := Go.Op.call { callee := Go.Callee.value (Go.Operand.func 58), args := #[Go.Operand.tmp 19, Go.Operand.const (Go.Value.int Go.IntKind.i64 14)], argTypes := #[9, 3] }, type := 3, pos := "tgahead.go:165", after := #[{ on := 11, ground := Go.Ground.data }, { on := 10, ground := Go.Ground.chain }], guard := none }) rfl (fun K hK => ?_) ?_
    · go_simp
      refine (HKY.out _).mono ?_
      rintro e w' ⟨rfl, n2, rfl⟩
      try go_wp2_with fail
      refine hK.out _ _ ?_ (fun hHeld2 => ?_)
      · first | exact trivial | go_keep
      clear hHeld
      have hHeld := hHeld2
      clear hK K hHeld2
      try simp only [Act.put, List.setIfInBounds_toArray, List.set_cons_zero, List.set_cons_succ]
      refine wpAnyH_take (i := 24) (oi := { dst := some 32, op := Go.Op.build 47 #[(0, Go.Operand.tmp 10), (1, Go.Operand.tmp 13), (2, Go.Operand.tmp 16), (6, Go.Operand.tmp 18), (7, Go.Operand.tmp 20), (8, Go.Operand.tmp 23), (9, Go.Operand.tmp 25), (10, Go.Operand.tmp 28), (11, Go.Operand.tmp 31)], type := 47, pos := "tgahead.go:160", after := #[{ on := 2, ground := Go.Ground.data }, { on := 5, ground := Go.Ground.data }, { on := 8, ground := Go.Ground.data }, { on := 10, ground := Go.Ground.data }, { on := 12, ground := Go.Ground.data }, { on := 15, ground := Go.Ground.data }, { on := 17, ground := Go.Ground.data }, { on := 20, ground := Go.Ground.data }, { on := 23, ground := Go.Ground.data }], guard := none }) (v := ?v24_23) rfl (by kernel_rfl) (by kernel_rfl) (by kernel_rfl) (fun _ _ _ h => h) (Or.inl ⟨by rfl, ?hy24_23⟩) (by assumption) ?rest24_23
      case hy24_23 =>
        intro w' hSw
        try dsimp only at hSw
        go_simp
        try with_reducible rfl
      try simp only [Act.put, List.setIfInBounds_toArray, List.set_cons_zero, List.set_cons_succ]
      refine wpAnyH_ready (rs := [25]) (by kernel_rfl) (by simp) ?_
      refine AllReadyH.cons (o := { dst := some 4, op := Go.Op.alloc 47, type := 0, pos := "tgahead.go:160", after := #[], guard := none }) rfl (fun K hK => ?_) AllReadyH.nil
      go_simp
      refine hK.out _ _ ?_ (fun hHeld2 => ?_)
      · first | exact trivial | go_keep
      clear hHeld
      have hHeld := hHeld2
      clear hK K hHeld2
      try simp only [Act.put, List.setIfInBounds_toArray, List.set_cons_zero, List.set_cons_succ]
      refine wpAnyH_ready (rs := [26]) (by kernel_rfl) (by simp) ?_
      refine AllReadyH.cons (o := { dst := none, op := Go.Op.store 47 (Go.Operand.tmp 4) (Go.Operand.tmp 32), type := 0, pos := "tgahead.go:160", after := #[{ on := 25, ground := Go.Ground.data }, { on := 24, ground := Go.Ground.data }, { on := 12, ground := Go.Ground.chain }, { on := 0, ground := Go.Ground.phase }, { on := 1, ground := Go.Ground.phase }, { on := 2, ground := Go.Ground.phase }, { on := 3, ground := Go.Ground.phase }, { on := 4, ground := Go.Ground.phase }, { on := 5, ground := Go.Ground.phase }, { on := 6, ground := Go.Ground.phase }, { on := 7, ground := Go.Ground.phase }, { on := 8, ground := Go.Ground.phase }, { on := 9, ground := Go.Ground.phase }, { on := 10, ground := Go.Ground.phase }, { on := 11, ground := Go.Ground.phase }, { on := 12, ground := Go.Ground.phase }, { on := 13, ground := Go.Ground.phase }, { on := 14, ground := Go.Ground.phase }, { on := 15, ground := Go.Ground.phase }, { on := 16, ground := Go.Ground.phase }, { on := 17, ground := Go.Ground.phase }, { on := 18, ground := Go.Ground.phase }, { on := 19, ground := Go.Ground.phase }, { on := 20, ground := Go.Ground.phase }, { on := 21, ground := Go.Ground.phase }, { on := 22, ground := Go.Ground.phase }, { on := 23, ground := Go.Ground.phase }, { on := 24, ground := Go.Ground.phase }, { on := 25, ground := Go.Ground.phase }], guard := none }) rfl (fun K hK => ?_) AllReadyH.nil
      go_simp
      refine hK.out _ _ ?_ (fun hHeld2 => ?_)
      · first | exact trivial | go_keep
      clear hHeld
      have hHeld := hHeld2
      clear hK K hHeld2
      try simp only [Act.put, List.setIfInBounds_toArray, List.set_cons_zero, List.set_cons_succ]
      refine wpAnyH_done (by kernel_rfl) ?_ _
      refine abs_w (R := fun w => FR W w w1.heap.size (hV x0 false x2 0 0 0 X Y x16 al lf tp)) ?_ (fun w2 I => ?_)
      · refine ⟨?_, ?_, HZ.out, ?_⟩
        · exact FR_res HR.out
        · exact FR_new rfl
        · exact FR_gb HG.out
      have a0 : w2.cell? ⟨w1.heap.size, 0, none⟩ = some (.int .i64 x0) := blk_cell I.hd 0
      have a1 : w2.cell? ⟨w1.heap.size, 1, none⟩ = some (.bool false) := blk_cell I.hd 1
      have a2 : w2.cell? ⟨w1.heap.size, 2, none⟩ = some (.int .i64 x2) := blk_cell I.hd 2
      have a3 : w2.cell? ⟨w1.heap.size, 3, none⟩ = some (.int .i64 0) := blk_cell I.hd 3
      have a4 : w2.cell? ⟨w1.heap.size, 4, none⟩ = some (.int .i64 0) := blk_cell I.hd 4
      have a5 : w2.cell? ⟨w1.heap.size, 5, none⟩ = some (.int .i64 0) := blk_cell I.hd 5
      have a6 : w2.cell? ⟨w1.heap.size, 6, none⟩ = some (.int .i64 X) := blk_cell I.hd 6
      have a7 : w2.cell? ⟨w1.heap.size, 7, none⟩ = some (.int .i64 Y) := blk_cell I.hd 7
      have a8 : w2.cell? ⟨w1.heap.size, 8, none⟩ = some (.int .i64 x16) := blk_cell I.hd 8
      have a9 : w2.cell? ⟨w1.heap.size, 9, none⟩ = some (.int .i64 al) := blk_cell I.hd 9
      have a10 : w2.cell? ⟨w1.heap.size, 10, none⟩ = some (.bool lf) := blk_cell I.hd 10
      have a11 : w2.cell? ⟨w1.heap.size, 11, none⟩ = some (.bool tp) := blk_cell I.hd 11
      have r0 : w2.cell? ⟨W.heap.size, 0, none⟩ = some (.int .i64 0) := blk_cell I.res 0
      have rf0 := blk_free I.res 0
      have r1 : w2.cell? ⟨W.heap.size, 1, none⟩ = some (.bool false) := blk_cell I.res 1
      have rf1 := blk_free I.res 1
      have r2 : w2.cell? ⟨W.heap.size, 2, none⟩ = some (.int .i64 0) := blk_cell I.res 2
      have rf2 := blk_free I.res 2
      have r3 : w2.cell? ⟨W.heap.size, 3, none⟩ = some (.int .i64 0) := blk_cell I.res 3
      have rf3 := blk_free I.res 3
      have r4 : w2.cell? ⟨W.heap.size, 4, none⟩ = some (.int .i64 0) := blk_cell I.res 4
      have rf4 := blk_free I.res 4
      have r5 : w2.cell? ⟨W.heap.size, 5, none⟩ = some (.int .i64 0) := blk_cell I.res 5
      have rf5 := blk_free I.res 5
      have r6 : w2.cell? ⟨W.heap.size, 6, none⟩ = some (.int .i64 0) := blk_cell I.res 6
      have rf6 := blk_free I.res 6
      have r7 : w2.cell? ⟨W.heap.size, 7, none⟩ = some (.int .i64 0) := blk_cell I.res 7
      have rf7 := blk_free I.res 7
      have r8 : w2.cell? ⟨W.heap.size, 8, none⟩ = some (.int .i64 0) := blk_cell I.res 8
      have rf8 := blk_free I.res 8
      have r9 : w2.cell? ⟨W.heap.size, 9, none⟩ = some (.int .i64 0) := blk_cell I.res 9
      have rf9 := blk_free I.res 9
      have r10 : w2.cell? ⟨W.heap.size, 10, none⟩ = some (.bool false) := blk_cell I.res 10
      have rf10 := blk_free I.res 10
      have r11 : w2.cell? ⟨W.heap.size, 11, none⟩ = some (.bool false) := blk_cell I.res 11
      have rf11 := blk_free I.res 11
      have hlr := blk_lt I.res
      have hlh := blk_lt I.hd
      have ne1 : w1.heap.size ≠ W.heap.size := by have := I.eb; omega
      have ne2 : W.heap.size ≠ w1.heap.size := by have := I.eb; omega
      have GI := Lib.hid I.gb
      clear I hc1 hc2 hHeld HR HG HZ
      go_wp2
      refine bodyPost_ret (v := .agg #[.int .i64 x0, .bool false, .int .i64 x2, .int .i64 0, .int .i64 0, .int .i64 0, .int .i64 X, .int .i64 Y, .int .i64 x16, .int .i64 al, .bool lf, .bool tp]) (by simp only [results, Tryd.results39]; go_simp) rfl ⟨rfl, ?_⟩
      exact gb_own (gb_own (gb_own (gb_own (gb_own (gb_own (gb_own (gb_own (gb_own (gb_own (gb_own (gb_own (GI.out) (Nat.le_refl _) (gb_set _ _ _ _)) (Nat.le_refl _) (gb_set _ _ _ _)) (Nat.le_refl _) (gb_set _ _ _ _)) (Nat.le_refl _) (gb_set _ _ _ _)) (Nat.le_refl _) (gb_set _ _ _ _)) (Nat.le_refl _) (gb_set _ _ _ _)) (Nat.le_refl _) (gb_set _ _ _ _)) (Nat.le_refl _) (gb_set _ _ _ _)) (Nat.le_refl _) (gb_set _ _ _ _)) (Nat.le_refl _) (gb_set _ _ _ _)) (Nat.le_refl _) (gb_set _ _ _ _)) (Nat.le_refl _) (gb_set _ _ _ _)
    refine AllReadyH.cons (o := { dst := some 4, op := Go.Op.alloc 47, type := 0, pos := "tgahead.go:160", after := #[], guard := none }) rfl (fun K hK => ?_) AllReadyH.nil
    go_simp
    refine hK.out _ _ ?_ (fun hHeld2 => ?_)
    · first | exact trivial | go_keep
    clear hHeld
    have hHeld := hHeld2
    clear hK K hHeld2
    try simp only [Act.put, List.setIfInBounds_toArray, List.set_cons_zero, List.set_cons_succ]
    refine wpAnyH_ready (rs := [12]) (by kernel_rfl) (by simp) ?_
    refine AllReadyH.cons (o := { dst := some 20, op := Go.Op.call { callee := Go.Callee.value (Go.Operand.func 58), args := #[Go.Operand.tmp 19, Go.Operand.const (Go.Value.int Go.IntKind.i64 14)], argTypes := #[9, 3] }, type := 3, pos := "tgahead.go:165", after := #[{ on := 11, ground := Go.Ground.data }, { on := 10, ground := Go.Ground.chain }], guard := none }) rfl (fun K hK => ?_) AllReadyH.nil
    go_simp
    refine (HKY.out _).mono ?_
    rintro e w' ⟨rfl, n2, rfl⟩
    try go_wp2_with fail
    refine hK.out _ _ ?_ (fun hHeld2 => ?_)
    · first | exact trivial | go_keep
    clear hHeld
    have hHeld := hHeld2
    clear hK K hHeld2
    try simp only [Act.put, List.setIfInBounds_toArray, List.set_cons_zero, List.set_cons_succ]
    refine wpAnyH_take (i := 24) (oi := { dst := some 32, op := Go.Op.build 47 #[(0, Go.Operand.tmp 10), (1, Go.Operand.tmp 13), (2, Go.Operand.tmp 16), (6, Go.Operand.tmp 18), (7, Go.Operand.tmp 20), (8, Go.Operand.tmp 23), (9, Go.Operand.tmp 25), (10, Go.Operand.tmp 28), (11, Go.Operand.tmp 31)], type := 47, pos := "tgahead.go:160", after := #[{ on := 2, ground := Go.Ground.data }, { on := 5, ground := Go.Ground.data }, { on := 8, ground := Go.Ground.data }, { on := 10, ground := Go.Ground.data }, { on := 12, ground := Go.Ground.data }, { on := 15, ground := Go.Ground.data }, { on := 17, ground := Go.Ground.data }, { on := 20, ground := Go.Ground.data }, { on := 23, ground := Go.Ground.data }], guard := none }) (v := ?v24_24) rfl (by kernel_rfl) (by kernel_rfl) (by kernel_rfl) (fun _ _ _ h => h) (Or.inl ⟨by rfl, ?hy24_24⟩) (by assumption) ?rest24_24
    case hy24_24 =>
      intro w' hSw
      try dsimp only at hSw
      go_simp
      try with_reducible rfl
    try simp only [Act.put, List.setIfInBounds_toArray, List.set_cons_zero, List.set_cons_succ]
    refine wpAnyH_ready (rs := [26]) (by kernel_rfl) (by simp) ?_
    refine AllReadyH.cons (o := { dst := none, op := Go.Op.store 47 (Go.Operand.tmp 4) (Go.Operand.tmp 32), type := 0, pos := "tgahead.go:160", after := #[{ on := 25, ground := Go.Ground.data }, { on := 24, ground := Go.Ground.data }, { on := 12, ground := Go.Ground.chain }, { on := 0, ground := Go.Ground.phase }, { on := 1, ground := Go.Ground.phase }, { on := 2, ground := Go.Ground.phase }, { on := 3, ground := Go.Ground.phase }, { on := 4, ground := Go.Ground.phase }, { on := 5, ground := Go.Ground.phase }, { on := 6, ground := Go.Ground.phase }, { on := 7, ground := Go.Ground.phase }, { on := 8, ground := Go.Ground.phase }, { on := 9, ground := Go.Ground.phase }, { on := 10, ground := Go.Ground.phase }, { on := 11, ground := Go.Ground.phase }, { on := 12, ground := Go.Ground.phase }, { on := 13, ground := Go.Ground.phase }, { on := 14, ground := Go.Ground.phase }, { on := 15, ground := Go.Ground.phase }, { on := 16, ground := Go.Ground.phase }, { on := 17, ground := Go.Ground.phase }, { on := 18, ground := Go.Ground.phase }, { on := 19, ground := Go.Ground.phase }, { on := 20, ground := Go.Ground.phase }, { on := 21, ground := Go.Ground.phase }, { on := 22, ground := Go.Ground.phase }, { on := 23, ground := Go.Ground.phase }, { on := 24, ground := Go.Ground.phase }, { on := 25, ground := Go.Ground.phase }], guard := none }) rfl (fun K hK => ?_) AllReadyH.nil
    go_simp
    refine hK.out _ _ ?_ (fun hHeld2 => ?_)
    · first | exact trivial | go_keep
    clear hHeld
    have hHeld := hHeld2
    clear hK K hHeld2
    try simp only [Act.put, List.setIfInBounds_toArray, List.set_cons_zero, List.set_cons_succ]
    refine wpAnyH_done (by kernel_rfl) ?_ _
    refine abs_w (R := fun w => FR W w w1.heap.size (hV x0 false x2 0 0 0 X Y x16 al lf tp)) ?_ (fun w2 I => ?_)
    · refine ⟨?_, ?_, HZ.out, ?_⟩
      · exact FR_res HR.out
      · exact FR_new rfl
      · exact FR_gb HG.out
    have a0 : w2.cell? ⟨w1.heap.size, 0, none⟩ = some (.int .i64 x0) := blk_cell I.hd 0
    have a1 : w2.cell? ⟨w1.heap.size, 1, none⟩ = some (.bool false) := blk_cell I.hd 1
    have a2 : w2.cell? ⟨w1.heap.size, 2, none⟩ = some (.int .i64 x2) := blk_cell I.hd 2
    have a3 : w2.cell? ⟨w1.heap.size, 3, none⟩ = some (.int .i64 0) := blk_cell I.hd 3
    have a4 : w2.cell? ⟨w1.heap.size, 4, none⟩ = some (.int .i64 0) := blk_cell I.hd 4
    have a5 : w2.cell? ⟨w1.heap.size, 5, none⟩ = some (.int .i64 0) := blk_cell I.hd 5
    have a6 : w2.cell? ⟨w1.heap.size, 6, none⟩ = some (.int .i64 X) := blk_cell I.hd 6
    have a7 : w2.cell? ⟨w1.heap.size, 7, none⟩ = some (.int .i64 Y) := blk_cell I.hd 7
    have a8 : w2.cell? ⟨w1.heap.size, 8, none⟩ = some (.int .i64 x16) := blk_cell I.hd 8
    have a9 : w2.cell? ⟨w1.heap.size, 9, none⟩ = some (.int .i64 al) := blk_cell I.hd 9
    have a10 : w2.cell? ⟨w1.heap.size, 10, none⟩ = some (.bool lf) := blk_cell I.hd 10
    have a11 : w2.cell? ⟨w1.heap.size, 11, none⟩ = some (.bool tp) := blk_cell I.hd 11
    have r0 : w2.cell? ⟨W.heap.size, 0, none⟩ = some (.int .i64 0) := blk_cell I.res 0
    have rf0 := blk_free I.res 0
    have r1 : w2.cell? ⟨W.heap.size, 1, none⟩ = some (.bool false) := blk_cell I.res 1
    have rf1 := blk_free I.res 1
    have r2 : w2.cell? ⟨W.heap.size, 2, none⟩ = some (.int .i64 0) := blk_cell I.res 2
    have rf2 := blk_free I.res 2
    have r3 : w2.cell? ⟨W.heap.size, 3, none⟩ = some (.int .i64 0) := blk_cell I.res 3
    have rf3 := blk_free I.res 3
    have r4 : w2.cell? ⟨W.heap.size, 4, none⟩ = some (.int .i64 0) := blk_cell I.res 4
    have rf4 := blk_free I.res 4
    have r5 : w2.cell? ⟨W.heap.size, 5, none⟩ = some (.int .i64 0) := blk_cell I.res 5
    have rf5 := blk_free I.res 5
    have r6 : w2.cell? ⟨W.heap.size, 6, none⟩ = some (.int .i64 0) := blk_cell I.res 6
    have rf6 := blk_free I.res 6
    have r7 : w2.cell? ⟨W.heap.size, 7, none⟩ = some (.int .i64 0) := blk_cell I.res 7
    have rf7 := blk_free I.res 7
    have r8 : w2.cell? ⟨W.heap.size, 8, none⟩ = some (.int .i64 0) := blk_cell I.res 8
    have rf8 := blk_free I.res 8
    have r9 : w2.cell? ⟨W.heap.size, 9, none⟩ = some (.int .i64 0) := blk_cell I.res 9
    have rf9 := blk_free I.res 9
    have r10 : w2.cell? ⟨W.heap.size, 10, none⟩ = some (.bool false) := blk_cell I.res 10
    have rf10 := blk_free I.res 10
    have r11 : w2.cell? ⟨W.heap.size, 11, none⟩ = some (.bool false) := blk_cell I.res 11
    have rf11 := blk_free I.res 11
    have hlr := blk_lt I.res
    have hlh := blk_lt I.hd
    have ne1 : w1.heap.size ≠ W.heap.size := by have := I.eb; omega
    have ne2 : W.heap.size ≠ w1.heap.size := by have := I.eb; omega
    have GI := Lib.hid I.gb
    clear I hc1 hc2 hHeld HR HG HZ
    go_wp2
    refine bodyPost_ret (v := .agg #[.int .i64 x0, .bool false, .int .i64 x2, .int .i64 0, .int .i64 0, .int .i64 0, .int .i64 X, .int .i64 Y, .int .i64 x16, .int .i64 al, .bool lf, .bool tp]) (by simp only [results, Tryd.results39]; go_simp) rfl ⟨rfl, ?_⟩
    exact gb_own (gb_own (gb_own (gb_own (gb_own (gb_own (gb_own (gb_own (gb_own (gb_own (gb_own (gb_own (GI.out) (Nat.le_refl _) (gb_set _ _ _ _)) (Nat.le_refl _) (gb_set _ _ _ _)) (Nat.le_refl _) (gb_set _ _ _ _)) (Nat.le_refl _) (gb_set _ _ _ _)) (Nat.le_refl _) (gb_set _ _ _ _)) (Nat.le_refl _) (gb_set _ _ _ _)) (Nat.le_refl _) (gb_set _ _ _ _)) (Nat.le_refl _) (gb_set _ _ _ _)) (Nat.le_refl _) (gb_set _ _ _ _)) (Nat.le_refl _) (gb_set _ _ _ _)) (Nat.le_refl _) (gb_set _ _ _ _)) (Nat.le_refl _) (gb_set _ _ _ _)
  refine AllReadyH.cons (o := { dst := some 4, op := Go.Op.alloc 47, type := 0, pos := "tgahead.go:160", after := #[], guard := none }) rfl (fun K hK => ?_) AllReadyH.nil
  go_simp
  refine hK.out _ _ ?_ (fun hHeld2 => ?_)
  · first | exact trivial | go_keep
  clear hHeld
  have hHeld := hHeld2
  clear hK K hHeld2
  try simp only [Act.put, List.setIfInBounds_toArray, List.set_cons_zero, List.set_cons_succ]
  refine wpAnyH_ready (rs := [10]) (by kernel_rfl) (by simp) ?_
  refine AllReadyH.cons (o := { dst := some 18, op := Go.Op.call { callee := Go.Callee.value (Go.Operand.func 58), args := #[Go.Operand.tmp 17, Go.Operand.const (Go.Value.int Go.IntKind.i64 12)], argTypes := #[9, 3] }, type := 3, pos := "tgahead.go:164", after := #[{ on := 9, ground := Go.Ground.data }], guard := none }) rfl (fun K hK => ?_) AllReadyH.nil
  go_simp
  refine (HKX.out _).mono ?_
  rintro e w' ⟨rfl, n1, rfl⟩
  try go_wp2_with fail
  refine hK.out _ _ ?_ (fun hHeld2 => ?_)
  · first | exact trivial | go_keep
  clear hHeld
  have hHeld := hHeld2
  clear hK K hHeld2
  try simp only [Act.put, List.setIfInBounds_toArray, List.set_cons_zero, List.set_cons_succ]
  refine wpAnyH_ready (rs := [12]) (by kernel_rfl) (by simp) ?_
  refine AllReadyH.cons (o := { dst := some 20, op := Go.Op.call { callee := Go.Callee.value (Go.Operand.func 58), args := #[Go.Operand.tmp 19, Go.Operand.const (Go.Value.int Go.IntKind.i64 14)], argTypes := #[9, 3] }, type := 3, pos := "tgahead.go:165", after := #[{ on := 11, ground := Go.Ground.data }, { on := 10, ground := Go.Ground.chain }], guard := none }) rfl (fun K hK => ?_) AllReadyH.nil
  go_simp
  refine (HKY.out _).mono ?_
  rintro e w' ⟨rfl, n2, rfl⟩
  try go_wp2_with fail
  refine hK.out _ _ ?_ (fun hHeld2 => ?_)
  · first | exact trivial | go_keep
  clear hHeld
  have hHeld := hHeld2
  clear hK K hHeld2
  try simp only [Act.put, List.setIfInBounds_toArray, List.set_cons_zero, List.set_cons_succ]
  refine wpAnyH_take (i := 24) (oi := { dst := some 32, op := Go.Op.build 47 #[(0, Go.Operand.tmp 10), (1, Go.Operand.tmp 13), (2, Go.Operand.tmp 16), (6, Go.Operand.tmp 18), (7, Go.Operand.tmp 20), (8, Go.Operand.tmp 23), (9, Go.Operand.tmp 25), (10, Go.Operand.tmp 28), (11, Go.Operand.tmp 31)], type := 47, pos := "tgahead.go:160", after := #[{ on := 2, ground := Go.Ground.data }, { on := 5, ground := Go.Ground.data }, { on := 8, ground := Go.Ground.data }, { on := 10, ground := Go.Ground.data }, { on := 12, ground := Go.Ground.data }, { on := 15, ground := Go.Ground.data }, { on := 17, ground := Go.Ground.data }, { on := 20, ground := Go.Ground.data }, { on := 23, ground := Go.Ground.data }], guard := none }) (v := ?v24_25) rfl (by kernel_rfl) (by kernel_rfl) (by kernel_rfl) (fun _ _ _ h => h) (Or.inl ⟨by rfl, ?hy24_25⟩) (by assumption) ?rest24_25
  case hy24_25 =>
    intro w' hSw
    try dsimp only at hSw
    go_simp
    try with_reducible rfl
  try simp only [Act.put, List.setIfInBounds_toArray, List.set_cons_zero, List.set_cons_succ]
  refine wpAnyH_ready (rs := [26]) (by kernel_rfl) (by simp) ?_
  refine AllReadyH.cons (o := { dst := none, op := Go.Op.store 47 (Go.Operand.tmp 4) (Go.Operand.tmp 32), type := 0, pos := "tgahead.go:160", after := #[{ on := 25, ground := Go.Ground.data }, { on := 24, ground := Go.Ground.data }, { on := 12, ground := Go.Ground.chain }, { on := 0, ground := Go.Ground.phase }, { on := 1, ground := Go.Ground.phase }, { on := 2, ground := Go.Ground.phase }, { on := 3, ground := Go.Ground.phase }, { on := 4, ground := Go.Ground.phase }, { on := 5, ground := Go.Ground.phase }, { on := 6, ground := Go.Ground.phase }, { on := 7, ground := Go.Ground.phase }, { on := 8, ground := Go.Ground.phase }, { on := 9, ground := Go.Ground.phase }, { on := 10, ground := Go.Ground.phase }, { on := 11, ground := Go.Ground.phase }, { on := 12, ground := Go.Ground.phase }, { on := 13, ground := Go.Ground.phase }, { on := 14, ground := Go.Ground.phase }, { on := 15, ground := Go.Ground.phase }, { on := 16, ground := Go.Ground.phase }, { on := 17, ground := Go.Ground.phase }, { on := 18, ground := Go.Ground.phase }, { on := 19, ground := Go.Ground.phase }, { on := 20, ground := Go.Ground.phase }, { on := 21, ground := Go.Ground.phase }, { on := 22, ground := Go.Ground.phase }, { on := 23, ground := Go.Ground.phase }, { on := 24, ground := Go.Ground.phase }, { on := 25, ground := Go.Ground.phase }], guard := none }) rfl (fun K hK => ?_) AllReadyH.nil
  go_simp
  refine hK.out _ _ ?_ (fun hHeld2 => ?_)
  · first | exact trivial | go_keep
  clear hHeld
  have hHeld := hHeld2
  clear hK K hHeld2
  try simp only [Act.put, List.setIfInBounds_toArray, List.set_cons_zero, List.set_cons_succ]
  refine wpAnyH_done (by kernel_rfl) ?_ _
  refine abs_w (R := fun w => FR W w w1.heap.size (hV x0 false x2 0 0 0 X Y x16 al lf tp)) ?_ (fun w2 I => ?_)
  · refine ⟨?_, ?_, HZ.out, ?_⟩
    · exact FR_res HR.out
    · exact FR_new rfl
    · exact FR_gb HG.out
  have a0 : w2.cell? ⟨w1.heap.size, 0, none⟩ = some (.int .i64 x0) := blk_cell I.hd 0
  have a1 : w2.cell? ⟨w1.heap.size, 1, none⟩ = some (.bool false) := blk_cell I.hd 1
  have a2 : w2.cell? ⟨w1.heap.size, 2, none⟩ = some (.int .i64 x2) := blk_cell I.hd 2
  have a3 : w2.cell? ⟨w1.heap.size, 3, none⟩ = some (.int .i64 0) := blk_cell I.hd 3
  have a4 : w2.cell? ⟨w1.heap.size, 4, none⟩ = some (.int .i64 0) := blk_cell I.hd 4
  have a5 : w2.cell? ⟨w1.heap.size, 5, none⟩ = some (.int .i64 0) := blk_cell I.hd 5
  have a6 : w2.cell? ⟨w1.heap.size, 6, none⟩ = some (.int .i64 X) := blk_cell I.hd 6
  have a7 : w2.cell? ⟨w1.heap.size, 7, none⟩ = some (.int .i64 Y) := blk_cell I.hd 7
  have a8 : w2.cell? ⟨w1.heap.size, 8, none⟩ = some (.int .i64 x16) := blk_cell I.hd 8
  have a9 : w2.cell? ⟨w1.heap.size, 9, none⟩ = some (.int .i64 al) := blk_cell I.hd 9
  have a10 : w2.cell? ⟨w1.heap.size, 10, none⟩ = some (.bool lf) := blk_cell I.hd 10
  have a11 : w2.cell? ⟨w1.heap.size, 11, none⟩ = some (.bool tp) := blk_cell I.hd 11
  have r0 : w2.cell? ⟨W.heap.size, 0, none⟩ = some (.int .i64 0) := blk_cell I.res 0
  have rf0 := blk_free I.res 0
  have r1 : w2.cell? ⟨W.heap.size, 1, none⟩ = some (.bool false) := blk_cell I.res 1
  have rf1 := blk_free I.res 1
  have r2 : w2.cell? ⟨W.heap.size, 2, none⟩ = some (.int .i64 0) := blk_cell I.res 2
  have rf2 := blk_free I.res 2
  have r3 : w2.cell? ⟨W.heap.size, 3, none⟩ = some (.int .i64 0) := blk_cell I.res 3
  have rf3 := blk_free I.res 3
  have r4 : w2.cell? ⟨W.heap.size, 4, none⟩ = some (.int .i64 0) := blk_cell I.res 4
  have rf4 := blk_free I.res 4
  have r5 : w2.cell? ⟨W.heap.size, 5, none⟩ = some (.int .i64 0) := blk_cell I.res 5
  have rf5 := blk_free I.res 5
  have r6 : w2.cell? ⟨W.heap.size, 6, none⟩ = some (.int .i64 0) := blk_cell I.res 6
  have rf6 := blk_free I.res 6
  have r7 : w2.cell? ⟨W.heap.size, 7, none⟩ = some (.int .i64 0) := blk_cell I.res 7
  have rf7 := blk_free I.res 7
  have r8 : w2.cell? ⟨W.heap.size, 8, none⟩ = some (.int .i64 0) := blk_cell I.res 8
  have rf8 := blk_free I.res 8
  have r9 : w2.cell? ⟨W.heap.size, 9, none⟩ = some (.int .i64 0) := blk_cell I.res 9
  have rf9 := blk_free I.res 9
  have r10 : w2.cell? ⟨W.heap.size, 10, none⟩ = some (.bool false) := blk_cell I.res 10
  have rf10 := blk_free I.res 10
  have r11 : w2.cell? ⟨W.heap.size, 11, none⟩ = some (.bool false) := blk_cell I.res 11
  have rf11 := blk_free I.res 11
  have hlr := blk_lt I.res
  have hlh := blk_lt I.hd
  have ne1 : w1.heap.size ≠ W.heap.size := by have := I.eb; omega
  have ne2 : W.heap.size ≠ w1.heap.size := by have := I.eb; omega
  have GI := Lib.hid I.gb
  clear I hc1 hc2 hHeld HR HG HZ
  go_wp2
  refine bodyPost_ret (v := .agg #[.int .i64 x0, .bool false, .int .i64 x2, .int .i64 0, .int .i64 0, .int .i64 0, .int .i64 X, .int .i64 Y, .int .i64 x16, .int .i64 al, .bool lf, .bool tp]) (by simp only [results, Tryd.results39]; go_simp) rfl ⟨rfl, ?_⟩
  exact gb_own (gb_own (gb_own (gb_own (gb_own (gb_own (gb_own (gb_own (gb_own (gb_own (gb_own (gb_own (GI.out) (Nat.le_refl _) (gb_set _ _ _ _)) (Nat.le_refl _) (gb_set _ _ _ _)) (Nat.le_refl _) (gb_set _ _ _ _)) (Nat.le_refl _) (gb_set _ _ _ _)) (Nat.le_refl _) (gb_set _ _ _ _)) (Nat.le_refl _) (gb_set _ _ _ _)) (Nat.le_refl _) (gb_set _ _ _ _)) (Nat.le_refl _) (gb_set _ _ _ _)) (Nat.le_refl _) (gb_set _ _ _ _)) (Nat.le_refl _) (gb_set _ _ _ _)) (Nat.le_refl _) (gb_set _ _ _ _)) (Nat.le_refl _) (gb_set _ _ _ _)

set_option maxRecDepth 100000 in
set_option maxHeartbeats 4000000 in
theorem fields_yes (s : ByteArray) (x0 x2 x16 f : Nat) (x1 al a16 a32 X Y : Int) (lf tp : Bool) (W : World) (h18 : 18 ≤ s.size) (hm : s.size ≤ 9223372036854775807) (b0 : x0 < 256) (b2 : x2 < 256) (b16 : x16 < 256) (bf : f < 256)
    (g0 : ((s[0]'(by omega)).toNat : Int) = x0) (g1 : ((s[1]'(by omega)).toNat : Int) = x1) (g2 : ((s[2]'(by omega)).toNat : Int) = x2)
    (g16 : ((s[16]'(by omega)).toNat : Int) = x16) (g17 : ((s[17]'(by omega)).toNat : Int) = f)
    (n1 : (x1 == 1) = true) (e15 : bits .and .i64 f 15 = al) (e16 : bits .and .i64 f 16 = a16) (e32 : bits .and .i64 f 32 = a32) (z16 : (a16 != 0) = lf) (z32 : (a32 != 0) = tp)
    (KX : ∀ u, Calls Tryd.prog 58 #[.string s, .int .i64 12] u fun e w' => e = .returned (.int .i64 X) ∧ ∃ n, w' = u.drewN n)
    (KY : ∀ u, Calls Tryd.prog 58 #[.string s, .int .i64 14] u fun e w' => e = .returned (.int .i64 Y) ∧ ∃ n, w' = u.drewN n) (x7 : Nat) (A B : Int) (b7 : x7 < 256) (g7 : ((s[7]'(by omega)).toNat : Int) = x7)
    (KA : ∀ u, Calls Tryd.prog 58 #[.string s, .int .i64 3] u fun e w' => e = .returned (.int .i64 A) ∧ ∃ n, w' = u.drewN n)
    (KB : ∀ u, Calls Tryd.prog 58 #[.string s, .int .i64 5] u fun e w' => e = .returned (.int .i64 B) ∧ ∃ n, w' = u.drewN n) :
    Calls Tryd.prog 39 #[.string s] W fun e w' => e = .returned (.agg #[.int .i64 x0, .bool true, .int .i64 x2, .int .i64 A, .int .i64 B, .int .i64 x7, .int .i64 X, .int .i64 Y, .int .i64 x16, .int .i64 al, .bool lf, .bool tp]) ∧ W.grownBy w' none := by
  have i0 : 0 < s.size := by omega
  have i1 : (1 : Int) < (s.size : Int) := by omega
  have i2 : (2 : Int) < (s.size : Int) := by omega
  have i16 : (16 : Int) < (s.size : Int) := by omega
  have i17 : (17 : Int) < (s.size : Int) := by omega
  have v0 : IntKind.i64.wrap (x0 : Int) = x0 := by rw [IntKind.wrap_i64]; omega
  have v2 : IntKind.i64.wrap (x2 : Int) = x2 := by rw [IntKind.wrap_i64]; omega
  have v16 : IntKind.i64.wrap (x16 : Int) = x16 := by rw [IntKind.wrap_i64]; omega
  have i7 : (7 : Int) < (s.size : Int) := by omega
  have v7 : IntKind.i64.wrap (x7 : Int) = x7 := by rw [IntKind.wrap_i64]; omega
  have HKA := Lib.hid KA
  have HKB := Lib.hid KB
  have HKX := Lib.hid KX
  have HKY := Lib.hid KY
  clear KX KY KA KB
  go_enter Tryd.func39, Tryd.ntmps39
  go_wp2_with fail
  have hR : (W.alloc (.cells #[.int .i64 0, .bool false, .int .i64 0, .int .i64 0, .int .i64 0, .int .i64 0, .int .i64 0, .int .i64 0, .int .i64 0, .int .i64 0, .bool false, .bool false] 47)).heap[W.heap.size]? = some (.cells #[.int .i64 0, .bool false, .int .i64 0, .int .i64 0, .int .i64 0, .int .i64 0, .int .i64 0, .int .i64 0, .int .i64 0, .int .i64 0, .bool false, .bool false] 47 (0, 0)) := blk_at
  have hG := World.grownBy_alloc W (.cells #[.int .i64 0, .bool false, .int .i64 0, .int .i64 0, .int .i64 0, .int .i64 0, .int .i64 0, .int .i64 0, .int .i64 0, .int .i64 0, .bool false, .bool false] 47) none
  have hZ := size_alloc W (.cells #[.int .i64 0, .bool false, .int .i64 0, .int .i64 0, .int .i64 0, .int .i64 0, .int .i64 0, .int .i64 0, .int .i64 0, .int .i64 0, .bool false, .bool false] 47)
  generalize W.alloc (.cells #[.int .i64 0, .bool false, .int .i64 0, .int .i64 0, .int .i64 0, .int .i64 0, .int .i64 0, .int .i64 0, .int .i64 0, .int .i64 0, .bool false, .bool false] 47) = w1 at hR hG hZ ⊢
  have HR := Lib.hid hR
  have HG := Lib.hid hG
  have HZ := Lib.hid hZ
  clear hR hG hZ
  have hc1 : ∀ (w : World) (k : Nat) (o : Obj), (w.drewN k).alloc o = (w.alloc o).drewN k := fun _ _ _ => rfl
  have hc2 : ∀ (w : World) (k : Nat) (a : Addr) (v : Value), (w.drewN k).setCell a v = (w.setCell a v).drewN k := drewN_set
  refine wp_region_held_drew (S := fun _ => True) (by kernel_rfl) ?_ (fun hHeld => ?_)
  · first | exact trivial | go_keep
  refine wpAnyH_take (i := 0) (oi := { dst := some 8, op := Go.Op.move (Go.Operand.tmp 0), type := 9, pos := "tgahead.go:160", after := #[], guard := none }) (v := ?v0_26) rfl (by kernel_rfl) (by kernel_rfl) (by kernel_rfl) (fun _ _ _ h => h) (Or.inl ⟨by rfl, ?hy0_26⟩) (by assumption) ?rest0_26
  case hy0_26 =>
    intro w' hSw
    try dsimp only at hSw
    go_simp
    try with_reducible rfl
  try simp only [Act.put, List.setIfInBounds_toArray, List.set_cons_zero, List.set_cons_succ]
  refine wpAnyH_take (i := 1) (oi := { dst := some 9, op := Go.Op.index 9 (Go.Operand.tmp 8) (Go.Operand.const (Go.Value.int Go.IntKind.i64 0)), type := 5, pos := "tgahead.go:160", after := #[{ on := 0, ground := Go.Ground.data }], guard := none }) (v := ?v1_27) rfl (by kernel_rfl) (by kernel_rfl) (by kernel_rfl) (fun _ _ _ h => h) (Or.inl ⟨by rfl, ?hy1_27⟩) (by assumption) ?rest1_27
  case hy1_27 =>
    intro w' hSw
    try dsimp only at hSw
    go_simp
    try with_reducible rfl
  try simp only [Act.put, List.setIfInBounds_toArray, List.set_cons_zero, List.set_cons_succ]
  refine wpAnyH_take (i := 2) (oi := { dst := some 10, op := Go.Op.convert 5 3 (Go.Operand.tmp 9), type := 3, pos := "tgahead.go:160", after := #[{ on := 1, ground := Go.Ground.data }], guard := none }) (v := ?v2_28) rfl (by kernel_rfl) (by kernel_rfl) (by kernel_rfl) (fun _ _ _ h => h) (Or.inl ⟨by rfl, ?hy2_28⟩) (by assumption) ?rest2_28
  case hy2_28 =>
    intro w' hSw
    try dsimp only at hSw
    go_simp
    try with_reducible rfl
  try simp only [Act.put, List.setIfInBounds_toArray, List.set_cons_zero, List.set_cons_succ]
  refine wpAnyH_take (i := 3) (oi := { dst := some 11, op := Go.Op.move (Go.Operand.tmp 0), type := 9, pos := "tgahead.go:160", after := #[], guard := none }) (v := ?v3_29) rfl (by kernel_rfl) (by kernel_rfl) (by kernel_rfl) (fun _ _ _ h => h) (Or.inl ⟨by rfl, ?hy3_29⟩) (by assumption) ?rest3_29
  case hy3_29 =>
    intro w' hSw
    try dsimp only at hSw
    go_simp
    try with_reducible rfl
  try simp only [Act.put, List.setIfInBounds_toArray, List.set_cons_zero, List.set_cons_succ]
  refine wpAnyH_take (i := 4) (oi := { dst := some 12, op := Go.Op.index 9 (Go.Operand.tmp 11) (Go.Operand.const (Go.Value.int Go.IntKind.i64 1)), type := 5, pos := "tgahead.go:160", after := #[{ on := 3, ground := Go.Ground.data }], guard := none }) (v := ?v4_30) rfl (by kernel_rfl) (by kernel_rfl) (by kernel_rfl) (fun _ _ _ h => h) (Or.inl ⟨by rfl, ?hy4_30⟩) (by assumption) ?rest4_30
  case hy4_30 =>
    intro w' hSw
    try dsimp only at hSw
    go_simp
    try with_reducible rfl
  try simp only [Act.put, List.setIfInBounds_toArray, List.set_cons_zero, List.set_cons_succ]
  refine wpAnyH_take (i := 5) (oi := { dst := some 13, op := Go.Op.binOp Go.BinOp.eql 5 (Go.Operand.tmp 12) (Go.Operand.const (Go.Value.int Go.IntKind.u8 1)) 5, type := 4, pos := "tgahead.go:160", after := #[{ on := 4, ground := Go.Ground.data }], guard := none }) (v := ?v5_31) rfl (by kernel_rfl) (by kernel_rfl) (by kernel_rfl) (fun _ _ _ h => h) (Or.inl ⟨by rfl, ?hy5_31⟩) (by assumption) ?rest5_31
  case hy5_31 =>
    intro w' hSw
    try dsimp only at hSw
    go_simp
    try with_reducible rfl
  try simp only [Act.put, List.setIfInBounds_toArray, List.set_cons_zero, List.set_cons_succ]
  refine wpAnyH_take (i := 6) (oi := { dst := some 14, op := Go.Op.move (Go.Operand.tmp 0), type := 9, pos := "tgahead.go:160", after := #[], guard := none }) (v := ?v6_32) rfl (by kernel_rfl) (by kernel_rfl) (by kernel_rfl) (fun _ _ _ h => h) (Or.inl ⟨by rfl, ?hy6_32⟩) (by assumption) ?rest6_32
  case hy6_32 =>
    intro w' hSw
    try dsimp only at hSw
    go_simp
    try with_reducible rfl
  try simp only [Act.put, List.setIfInBounds_toArray, List.set_cons_zero, List.set_cons_succ]
  refine wpAnyH_take (i := 7) (oi := { dst := some 15, op := Go.Op.index 9 (Go.Operand.tmp 14) (Go.Operand.const (Go.Value.int Go.IntKind.i64 2)), type := 5, pos := "tgahead.go:160", after := #[{ on := 6, ground := Go.Ground.data }], guard := none }) (v := ?v7_33) rfl (by kernel_rfl) (by kernel_rfl) (by kernel_rfl) (fun _ _ _ h => h) (Or.inl ⟨by rfl, ?hy7_33⟩) (by assumption) ?rest7_33
  case hy7_33 =>
    intro w' hSw
    try dsimp only at hSw
    go_simp
    try with_reducible rfl
  try simp only [Act.put, List.setIfInBounds_toArray, List.set_cons_zero, List.set_cons_succ]
  refine wpAnyH_take (i := 8) (oi := { dst := some 16, op := Go.Op.convert 5 3 (Go.Operand.tmp 15), type := 3, pos := "tgahead.go:160", after := #[{ on := 7, ground := Go.Ground.data }], guard := none }) (v := ?v8_34) rfl (by kernel_rfl) (by kernel_rfl) (by kernel_rfl) (fun _ _ _ h => h) (Or.inl ⟨by rfl, ?hy8_34⟩) (by assumption) ?rest8_34
  case hy8_34 =>
    intro w' hSw
    try dsimp only at hSw
    go_simp
    try with_reducible rfl
  try simp only [Act.put, List.setIfInBounds_toArray, List.set_cons_zero, List.set_cons_succ]
  refine wpAnyH_take (i := 9) (oi := { dst := some 17, op := Go.Op.move (Go.Operand.tmp 0), type := 9, pos := "tgahead.go:160", after := #[], guard := none }) (v := ?v9_35) rfl (by kernel_rfl) (by kernel_rfl) (by kernel_rfl) (fun _ _ _ h => h) (Or.inl ⟨by rfl, ?hy9_35⟩) (by assumption) ?rest9_35
  case hy9_35 =>
    intro w' hSw
    try dsimp only at hSw
    go_simp
    try with_reducible rfl
  try simp only [Act.put, List.setIfInBounds_toArray, List.set_cons_zero, List.set_cons_succ]
  refine wpAnyH_take (i := 11) (oi := { dst := some 19, op := Go.Op.move (Go.Operand.tmp 0), type := 9, pos := "tgahead.go:160", after := #[], guard := none }) (v := ?v11_36) rfl (by kernel_rfl) (by kernel_rfl) (by kernel_rfl) (fun _ _ _ h => h) (Or.inl ⟨by rfl, ?hy11_36⟩) (by assumption) ?rest11_36
  case hy11_36 =>
    intro w' hSw
    try dsimp only at hSw
    go_simp
    try with_reducible rfl
  try simp only [Act.put, List.setIfInBounds_toArray, List.set_cons_zero, List.set_cons_succ]
  refine wpAnyH_take (i := 13) (oi := { dst := some 21, op := Go.Op.move (Go.Operand.tmp 0), type := 9, pos := "tgahead.go:160", after := #[], guard := none }) (v := ?v13_37) rfl (by kernel_rfl) (by kernel_rfl) (by kernel_rfl) (fun _ _ _ h => h) (Or.inl ⟨by rfl, ?hy13_37⟩) (by assumption) ?rest13_37
  case hy13_37 =>
    intro w' hSw
    try dsimp only at hSw
    go_simp
    try with_reducible rfl
  try simp only [Act.put, List.setIfInBounds_toArray, List.set_cons_zero, List.set_cons_succ]
  refine wpAnyH_take (i := 14) (oi := { dst := some 22, op := Go.Op.index 9 (Go.Operand.tmp 21) (Go.Operand.const (Go.Value.int Go.IntKind.i64 16)), type := 5, pos := "tgahead.go:160", after := #[{ on := 13, ground := Go.Ground.data }], guard := none }) (v := ?v14_38) rfl (by kernel_rfl) (by kernel_rfl) (by kernel_rfl) (fun _ _ _ h => h) (Or.inl ⟨by rfl, ?hy14_38⟩) (by assumption) ?rest14_38
  case hy14_38 =>
    intro w' hSw
    try dsimp only at hSw
    go_simp
    try with_reducible rfl
  try simp only [Act.put, List.setIfInBounds_toArray, List.set_cons_zero, List.set_cons_succ]
  refine wpAnyH_take (i := 15) (oi := { dst := some 23, op := Go.Op.convert 5 3 (Go.Operand.tmp 22), type := 3, pos := "tgahead.go:160", after := #[{ on := 14, ground := Go.Ground.data }], guard := none }) (v := ?v15_39) rfl (by kernel_rfl) (by kernel_rfl) (by kernel_rfl) (fun _ _ _ h => h) (Or.inl ⟨by rfl, ?hy15_39⟩) (by assumption) ?rest15_39
  case hy15_39 =>
    intro w' hSw
    try dsimp only at hSw
    go_simp
    try with_reducible rfl
  try simp only [Act.put, List.setIfInBounds_toArray, List.set_cons_zero, List.set_cons_succ]
  refine wpAnyH_take (i := 16) (oi := { dst := some 24, op := Go.Op.move (Go.Operand.tmp 3), type := 3, pos := "tgahead.go:160", after := #[], guard := none }) (v := ?v16_40) rfl (by kernel_rfl) (by kernel_rfl) (by kernel_rfl) (fun _ _ _ h => h) (Or.inl ⟨by rfl, ?hy16_40⟩) (by assumption) ?rest16_40
  case hy16_40 =>
    intro w' hSw
    try dsimp only at hSw
    go_simp
    try with_reducible rfl
  try simp only [Act.put, List.setIfInBounds_toArray, List.set_cons_zero, List.set_cons_succ]
  refine wpAnyH_take (i := 17) (oi := { dst := some 25, op := Go.Op.binOp Go.BinOp.and 3 (Go.Operand.tmp 24) (Go.Operand.const (Go.Value.int Go.IntKind.i64 15)) 3, type := 3, pos := "tgahead.go:160", after := #[{ on := 16, ground := Go.Ground.data }], guard := none }) (v := ?v17_41) rfl (by kernel_rfl) (by kernel_rfl) (by kernel_rfl) (fun _ _ _ h => h) (Or.inl ⟨by rfl, ?hy17_41⟩) (by assumption) ?rest17_41
  case hy17_41 =>
    intro w' hSw
    try dsimp only at hSw
    go_simp
    try with_reducible rfl
  try simp only [Act.put, List.setIfInBounds_toArray, List.set_cons_zero, List.set_cons_succ]
  refine wpAnyH_take (i := 18) (oi := { dst := some 26, op := Go.Op.move (Go.Operand.tmp 3), type := 3, pos := "tgahead.go:160", after := #[], guard := none }) (v := ?v18_42) rfl (by kernel_rfl) (by kernel_rfl) (by kernel_rfl) (fun _ _ _ h => h) (Or.inl ⟨by rfl, ?hy18_42⟩) (by assumption) ?rest18_42
  case hy18_42 =>
    intro w' hSw
    try dsimp only at hSw
    go_simp
    try with_reducible rfl
  try simp only [Act.put, List.setIfInBounds_toArray, List.set_cons_zero, List.set_cons_succ]
  refine wpAnyH_take (i := 19) (oi := { dst := some 27, op := Go.Op.binOp Go.BinOp.and 3 (Go.Operand.tmp 26) (Go.Operand.const (Go.Value.int Go.IntKind.i64 16)) 3, type := 3, pos := "tgahead.go:160", after := #[{ on := 18, ground := Go.Ground.data }], guard := none }) (v := ?v19_43) rfl (by kernel_rfl) (by kernel_rfl) (by kernel_rfl) (fun _ _ _ h => h) (Or.inl ⟨by rfl, ?hy19_43⟩) (by assumption) ?rest19_43
  case hy19_43 =>
    intro w' hSw
    try dsimp only at hSw
    go_simp
    try with_reducible rfl
  try simp only [Act.put, List.setIfInBounds_toArray, List.set_cons_zero, List.set_cons_succ]
  refine wpAnyH_take (i := 20) (oi := { dst := some 28, op := Go.Op.binOp Go.BinOp.neq 3 (Go.Operand.tmp 27) (Go.Operand.const (Go.Value.int Go.IntKind.i64 0)) 3, type := 4, pos := "tgahead.go:160", after := #[{ on := 19, ground := Go.Ground.data }], guard := none }) (v := ?v20_44) rfl (by kernel_rfl) (by kernel_rfl) (by kernel_rfl) (fun _ _ _ h => h) (Or.inl ⟨by rfl, ?hy20_44⟩) (by assumption) ?rest20_44
  case hy20_44 =>
    intro w' hSw
    try dsimp only at hSw
    go_simp
    try with_reducible rfl
  try simp only [Act.put, List.setIfInBounds_toArray, List.set_cons_zero, List.set_cons_succ]
  refine wpAnyH_take (i := 21) (oi := { dst := some 29, op := Go.Op.move (Go.Operand.tmp 3), type := 3, pos := "tgahead.go:160", after := #[], guard := none }) (v := ?v21_45) rfl (by kernel_rfl) (by kernel_rfl) (by kernel_rfl) (fun _ _ _ h => h) (Or.inl ⟨by rfl, ?hy21_45⟩) (by assumption) ?rest21_45
  case hy21_45 =>
    intro w' hSw
    try dsimp only at hSw
    go_simp
    try with_reducible rfl
  try simp only [Act.put, List.setIfInBounds_toArray, List.set_cons_zero, List.set_cons_succ]
  refine wpAnyH_take (i := 22) (oi := { dst := some 30, op := Go.Op.binOp Go.BinOp.and 3 (Go.Operand.tmp 29) (Go.Operand.const (Go.Value.int Go.IntKind.i64 32)) 3, type := 3, pos := "tgahead.go:160", after := #[{ on := 21, ground := Go.Ground.data }], guard := none }) (v := ?v22_46) rfl (by kernel_rfl) (by kernel_rfl) (by kernel_rfl) (fun _ _ _ h => h) (Or.inl ⟨by rfl, ?hy22_46⟩) (by assumption) ?rest22_46
  case hy22_46 =>
    intro w' hSw
    try dsimp only at hSw
    go_simp
    try with_reducible rfl
  try simp only [Act.put, List.setIfInBounds_toArray, List.set_cons_zero, List.set_cons_succ]
  refine wpAnyH_take (i := 23) (oi := { dst := some 31, op := Go.Op.binOp Go.BinOp.neq 3 (Go.Operand.tmp 30) (Go.Operand.const (Go.Value.int Go.IntKind.i64 0)) 3, type := 4, pos := "tgahead.go:160", after := #[{ on := 22, ground := Go.Ground.data }], guard := none }) (v := ?v23_47) rfl (by kernel_rfl) (by kernel_rfl) (by kernel_rfl) (fun _ _ _ h => h) (Or.inl ⟨by rfl, ?hy23_47⟩) (by assumption) ?rest23_47
  case hy23_47 =>
    intro w' hSw
    try dsimp only at hSw
    go_simp
    try with_reducible rfl
  try simp only [Act.put, List.setIfInBounds_toArray, List.set_cons_zero, List.set_cons_succ]
  refine wpAnyH_ready (rs := [10, 25]) (by kernel_rfl) (by simp) ?_
  refine AllReadyH.cons (o := { dst := some 18, op := Go.Op.call { callee := Go.Callee.value (Go.Operand.func 58), args := #[Go.Operand.tmp 17, Go.Operand.const (Go.Value.int Go.IntKind.i64 12)], argTypes := #[9, 3] }, type := 3, pos := "tgahead.go:164", after := #[{ on := 9, ground := Go.Ground.data }], guard := none }) rfl (fun K hK => ?_) ?_
  · go_simp
    refine (HKX.out _).mono ?_
    rintro e w' ⟨rfl, n1, rfl⟩
    try go_wp2_with fail
    refine hK.out _ _ ?_ (fun hHeld2 => ?_)
    · first | exact trivial | go_keep
    clear hHeld
    have hHeld := hHeld2
    clear hK K hHeld2
    try simp only [Act.put, List.setIfInBounds_toArray, List.set_cons_zero, List.set_cons_succ]
    refine wpAnyH_ready (rs := [12, 25]) (by kernel_rfl) (by simp) ?_
    refine AllReadyH.cons (o := { dst := some 20, op := Go.Op.call { callee := Go.Callee.value (Go.Operand.func 58), args := #[Go.Operand.tmp 19, Go.Operand.const (Go.Value.int Go.IntKind.i64 14)], argTypes := #[9, 3] }, type := 3, pos := "tgahead.go:165", after := #[{ on := 11, ground := Go.Ground.data }, { on := 10, ground := Go.Ground.chain }], guard := none }) rfl (fun K hK => ?_) ?_
    · go_simp
      refine (HKY.out _).mono ?_
      rintro e w' ⟨rfl, n2, rfl⟩
      try go_wp2_with fail
      refine hK.out _ _ ?_ (fun hHeld2 => ?_)
      · first | exact trivial | go_keep
      clear hHeld
      have hHeld := hHeld2
      clear hK K hHeld2
      try simp only [Act.put, List.setIfInBounds_toArray, List.set_cons_zero, List.set_cons_succ]
      refine wpAnyH_take (i := 24) (oi := { dst := some 32, op := Go.Op.build 47 #[(0, Go.Operand.tmp 10), (1, Go.Operand.tmp 13), (2, Go.Operand.tmp 16), (6, Go.Operand.tmp 18), (7, Go.Operand.tmp 20), (8, Go.Operand.tmp 23), (9, Go.Operand.tmp 25), (10, Go.Operand.tmp 28), (11, Go.Operand.tmp 31)], type := 47, pos := "tgahead.go:160", after := #[{ on := 2, ground := Go.Ground.data }, { on := 5, ground := Go.Ground.data }, { on := 8, ground := Go.Ground.data }, { on := 10, ground := Go.Ground.data }, { on := 12, ground := Go.Ground.data }, { on := 15, ground := Go.Ground.data }, { on := 17, ground := Go.Ground.data }, { on := 20, ground := Go.Ground.data }, { on := 23, ground := Go.Ground.data }], guard := none }) (v := ?v24_48) rfl (by kernel_rfl) (by kernel_rfl) (by kernel_rfl) (fun _ _ _ h => h) (Or.inl ⟨by rfl, ?hy24_48⟩) (by assumption) ?rest24_48
      case hy24_48 =>
        intro w' hSw
        try dsimp only at hSw
        go_simp
        try with_reducible rfl
      try simp only [Act.put, List.setIfInBounds_toArray, List.set_cons_zero, List.set_cons_succ]
      refine wpAnyH_ready (rs := [25]) (by kernel_rfl) (by simp) ?_
      refine AllReadyH.cons (o := { dst := some 4, op := Go.Op.alloc 47, type := 0, pos := "tgahead.go:160", after := #[], guard := none }) rfl (fun K hK => ?_) AllReadyH.nil
      go_simp
      refine hK.out _ _ ?_ (fun hHeld2 => ?_)
      · first | exact trivial | go_keep
      clear hHeld
      have hHeld := hHeld2
      clear hK K hHeld2
      try simp only [Act.put, List.setIfInBounds_toArray, List.set_cons_zero, List.set_cons_succ]
      refine wpAnyH_ready (rs := [26]) (by kernel_rfl) (by simp) ?_
      refine AllReadyH.cons (o := { dst := none, op := Go.Op.store 47 (Go.Operand.tmp 4) (Go.Operand.tmp 32), type := 0, pos := "tgahead.go:160", after := #[{ on := 25, ground := Go.Ground.data }, { on := 24, ground := Go.Ground.data }, { on := 12, ground := Go.Ground.chain }, { on := 0, ground := Go.Ground.phase }, { on := 1, ground := Go.Ground.phase }, { on := 2, ground := Go.Ground.phase }, { on := 3, ground := Go.Ground.phase }, { on := 4, ground := Go.Ground.phase }, { on := 5, ground := Go.Ground.phase }, { on := 6, ground := Go.Ground.phase }, { on := 7, ground := Go.Ground.phase }, { on := 8, ground := Go.Ground.phase }, { on := 9, ground := Go.Ground.phase }, { on := 10, ground := Go.Ground.phase }, { on := 11, ground := Go.Ground.phase }, { on := 12, ground := Go.Ground.phase }, { on := 13, ground := Go.Ground.phase }, { on := 14, ground := Go.Ground.phase }, { on := 15, ground := Go.Ground.phase }, { on := 16, ground := Go.Ground.phase }, { on := 17, ground := Go.Ground.phase }, { on := 18, ground := Go.Ground.phase }, { on := 19, ground := Go.Ground.phase }, { on := 20, ground := Go.Ground.phase }, { on := 21, ground := Go.Ground.phase }, { on := 22, ground := Go.Ground.phase }, { on := 23, ground := Go.Ground.phase }, { on := 24, ground := Go.Ground.phase }, { on := 25, ground := Go.Ground.phase }], guard := none }) rfl (fun K hK => ?_) AllReadyH.nil
      go_simp
      refine hK.out _ _ ?_ (fun hHeld2 => ?_)
      · first | exact trivial | go_keep
      clear hHeld
      have hHeld := hHeld2
      clear hK K hHeld2
      try simp only [Act.put, List.setIfInBounds_toArray, List.set_cons_zero, List.set_cons_succ]
      refine wpAnyH_done (by kernel_rfl) ?_ _
      refine abs_w (R := fun w => FR W w w1.heap.size (hV x0 true x2 0 0 0 X Y x16 al lf tp)) ?_ (fun w2 I => ?_)
      · refine ⟨?_, ?_, HZ.out, ?_⟩
        · exact FR_res HR.out
        · exact FR_new rfl
        · exact FR_gb HG.out
      have a0 : w2.cell? ⟨w1.heap.size, 0, none⟩ = some (.int .i64 x0) := blk_cell I.hd 0
      have a1 : w2.cell? ⟨w1.heap.size, 1, none⟩ = some (.bool true) := blk_cell I.hd 1
      have a2 : w2.cell? ⟨w1.heap.size, 2, none⟩ = some (.int .i64 x2) := blk_cell I.hd 2
      have a3 : w2.cell? ⟨w1.heap.size, 3, none⟩ = some (.int .i64 0) := blk_cell I.hd 3
      have a4 : w2.cell? ⟨w1.heap.size, 4, none⟩ = some (.int .i64 0) := blk_cell I.hd 4
      have a5 : w2.cell? ⟨w1.heap.size, 5, none⟩ = some (.int .i64 0) := blk_cell I.hd 5
      have a6 : w2.cell? ⟨w1.heap.size, 6, none⟩ = some (.int .i64 X) := blk_cell I.hd 6
      have a7 : w2.cell? ⟨w1.heap.size, 7, none⟩ = some (.int .i64 Y) := blk_cell I.hd 7
      have a8 : w2.cell? ⟨w1.heap.size, 8, none⟩ = some (.int .i64 x16) := blk_cell I.hd 8
      have a9 : w2.cell? ⟨w1.heap.size, 9, none⟩ = some (.int .i64 al) := blk_cell I.hd 9
      have a10 : w2.cell? ⟨w1.heap.size, 10, none⟩ = some (.bool lf) := blk_cell I.hd 10
      have a11 : w2.cell? ⟨w1.heap.size, 11, none⟩ = some (.bool tp) := blk_cell I.hd 11
      have hd0 := blk_free I.hd 3
      have hd1 := blk_free I.hd 4
      have hd2 := blk_free I.hd 5
      have hlh := blk_lt I.hd
      have ne2 : W.heap.size ≠ w1.heap.size := by have := I.eb; omega
      have hle : W.heap.size ≤ w1.heap.size := by have := I.eb; omega
      have HI := Lib.hid I
      clear I hc1 hHeld HR HG HZ
      go_wp2_with fail
      refine wp_region_held_drew (S := fun _ => True) (by kernel_rfl) ?_ (fun hHeld => ?_)
      · first | exact trivial | go_keep
      refine wpAnyH_take (i := 0) (oi := { dst := some 35, op := Go.Op.move (Go.Operand.tmp 0), type := 9, pos := "tgahead.go:172", after := #[], guard := none }) (v := ?v0_49) rfl (by kernel_rfl) (by kernel_rfl) (by kernel_rfl) (fun _ _ _ h => h) (Or.inl ⟨by rfl, ?hy0_49⟩) (by assumption) ?rest0_49
      case hy0_49 =>
        intro w' hSw
        try dsimp only at hSw
        go_simp
        try with_reducible rfl
      try simp only [Act.put, List.setIfInBounds_toArray, List.set_cons_zero, List.set_cons_succ]
      refine wpAnyH_take (i := 2) (oi := { dst := some 37, op := Go.Op.move (Go.Operand.tmp 0), type := 9, pos := "tgahead.go:172", after := #[], guard := none }) (v := ?v2_50) rfl (by kernel_rfl) (by kernel_rfl) (by kernel_rfl) (fun _ _ _ h => h) (Or.inl ⟨by rfl, ?hy2_50⟩) (by assumption) ?rest2_50
      case hy2_50 =>
        intro w' hSw
        try dsimp only at hSw
        go_simp
        try with_reducible rfl
      try simp only [Act.put, List.setIfInBounds_toArray, List.set_cons_zero, List.set_cons_succ]
      refine wpAnyH_take (i := 4) (oi := { dst := some 39, op := Go.Op.move (Go.Operand.tmp 0), type := 9, pos := "tgahead.go:172", after := #[{ on := 10, ground := Go.Ground.gcOnly Go.Departure.lateStores }], guard := none }) (v := ?v4_51) rfl (by kernel_rfl) (by kernel_rfl) (by kernel_rfl) (fun _ _ _ h => h) (Or.inl ⟨by rfl, ?hy4_51⟩) (by assumption) ?rest4_51
      case hy4_51 =>
        intro w' hSw
        try dsimp only at hSw
        go_simp
        try with_reducible rfl
      try simp only [Act.put, List.setIfInBounds_toArray, List.set_cons_zero, List.set_cons_succ]
      refine wpAnyH_take (i := 5) (oi := { dst := some 40, op := Go.Op.index 9 (Go.Operand.tmp 39) (Go.Operand.const (Go.Value.int Go.IntKind.i64 7)), type := 5, pos := "tgahead.go:172", after := #[{ on := 4, ground := Go.Ground.data }, { on := 10, ground := Go.Ground.gcOnly Go.Departure.lateStores }], guard := none }) (v := ?v5_52) rfl (by kernel_rfl) (by kernel_rfl) (by kernel_rfl) (fun _ _ _ h => h) (Or.inl ⟨by rfl, ?hy5_52⟩) (by assumption) ?rest5_52
      case hy5_52 =>
        intro w' hSw
        try dsimp only at hSw
        go_simp
        try with_reducible rfl
      try simp only [Act.put, List.setIfInBounds_toArray, List.set_cons_zero, List.set_cons_succ]
      refine wpAnyH_take (i := 6) (oi := { dst := some 41, op := Go.Op.convert 5 3 (Go.Operand.tmp 40), type := 3, pos := "tgahead.go:172", after := #[{ on := 5, ground := Go.Ground.data }, { on := 10, ground := Go.Ground.gcOnly Go.Departure.lateStores }], guard := none }) (v := ?v6_53) rfl (by kernel_rfl) (by kernel_rfl) (by kernel_rfl) (fun _ _ _ h => h) (Or.inl ⟨by rfl, ?hy6_53⟩) (by assumption) ?rest6_53
      case hy6_53 =>
        intro w' hSw
        try dsimp only at hSw
        go_simp
        try with_reducible rfl
      try simp only [Act.put, List.setIfInBounds_toArray, List.set_cons_zero, List.set_cons_succ]
      refine wpAnyH_ready (rs := [1]) (by kernel_rfl) (by simp) ?_
      refine AllReadyH.cons (o := { dst := some 36, op := Go.Op.call { callee := Go.Callee.value (Go.Operand.func 58), args := #[Go.Operand.tmp 35, Go.Operand.const (Go.Value.int Go.IntKind.i64 3)], argTypes := #[9, 3] }, type := 3, pos := "tgahead.go:172", after := #[{ on := 0, ground := Go.Ground.data }], guard := none }) rfl (fun K hK => ?_) AllReadyH.nil
      go_simp
      refine (HKA.out _).mono ?_
      rintro e w' ⟨rfl, n3, rfl⟩
      try go_wp2_with fail
      refine hK.out _ _ ?_ (fun hHeld2 => ?_)
      · first | exact trivial | go_keep
      clear hHeld
      have hHeld := hHeld2
      clear hK K hHeld2
      try simp only [Act.put, List.setIfInBounds_toArray, List.set_cons_zero, List.set_cons_succ]
      refine wpAnyH_take (i := 7) (oi := { dst := some 42, op := Go.Op.fieldAddr 47 (Go.Operand.tmp 4) 3, type := 0, pos := "tgahead.go:172", after := #[{ on := 0, ground := Go.Ground.phase }, { on := 1, ground := Go.Ground.phase }, { on := 2, ground := Go.Ground.textOnly Go.Departure.lateStores }, { on := 3, ground := Go.Ground.textOnly Go.Departure.lateStoresUnsure }, { on := 4, ground := Go.Ground.textOnly Go.Departure.lateStores }, { on := 5, ground := Go.Ground.textOnly Go.Departure.lateStores }, { on := 6, ground := Go.Ground.textOnly Go.Departure.lateStores }], guard := none }) (v := ?v7_54) rfl (by kernel_rfl) (by kernel_rfl) (by kernel_rfl) (fun _ _ _ h => h) (Or.inl ⟨by rfl, ?hy7_54⟩) (by assumption) ?rest7_54
      case hy7_54 =>
        intro w' hSw
        try dsimp only at hSw
        go_simp
        try with_reducible rfl
      try simp only [Act.put, List.setIfInBounds_toArray, List.set_cons_zero, List.set_cons_succ]
      refine wpAnyH_ready (rs := [3]) (by kernel_rfl) (by simp) ?_
      refine AllReadyH.cons (o := { dst := some 38, op := Go.Op.call { callee := Go.Callee.value (Go.Operand.func 58), args := #[Go.Operand.tmp 37, Go.Operand.const (Go.Value.int Go.IntKind.i64 5)], argTypes := #[9, 3] }, type := 3, pos := "tgahead.go:172", after := #[{ on := 2, ground := Go.Ground.data }, { on := 1, ground := Go.Ground.chain }], guard := none }) rfl (fun K hK => ?_) AllReadyH.nil
      go_simp
      refine (HKB.out _).mono ?_
      rintro e w' ⟨rfl, n4, rfl⟩
      try go_wp2_with fail
      refine hK.out _ _ ?_ (fun hHeld2 => ?_)
      · first | exact trivial | go_keep
      clear hHeld
      have hHeld := hHeld2
      clear hK K hHeld2
      try simp only [Act.put, List.setIfInBounds_toArray, List.set_cons_zero, List.set_cons_succ]
      refine wpAnyH_ready (rs := [8]) (by kernel_rfl) (by simp) ?_
      refine AllReadyH.cons (o := { dst := none, op := Go.Op.store 3 (Go.Operand.tmp 42) (Go.Operand.tmp 36), type := 0, pos := "tgahead.go:172", after := #[{ on := 7, ground := Go.Ground.data }, { on := 1, ground := Go.Ground.data }, { on := 3, ground := Go.Ground.chain }, { on := 0, ground := Go.Ground.phase }, { on := 1, ground := Go.Ground.phase }, { on := 2, ground := Go.Ground.textOnly Go.Departure.lateStores }, { on := 3, ground := Go.Ground.textOnly Go.Departure.lateStoresUnsure }, { on := 4, ground := Go.Ground.textOnly Go.Departure.lateStores }, { on := 5, ground := Go.Ground.textOnly Go.Departure.lateStores }, { on := 6, ground := Go.Ground.textOnly Go.Departure.lateStores }], guard := none }) rfl (fun K hK => ?_) AllReadyH.nil
      go_simp
      refine hK.out _ _ ?_ (fun hHeld2 => ?_)
      · first | exact trivial | go_keep
      clear hHeld
      have hHeld := hHeld2
      clear hK K hHeld2
      try simp only [Act.put, List.setIfInBounds_toArray, List.set_cons_zero, List.set_cons_succ]
      refine wpAnyH_take (i := 9) (oi := { dst := some 43, op := Go.Op.fieldAddr 47 (Go.Operand.tmp 4) 4, type := 0, pos := "tgahead.go:172", after := #[{ on := 0, ground := Go.Ground.phase }, { on := 1, ground := Go.Ground.phase }, { on := 2, ground := Go.Ground.phase }, { on := 3, ground := Go.Ground.phase }, { on := 4, ground := Go.Ground.textOnly Go.Departure.lateStores }, { on := 5, ground := Go.Ground.textOnly Go.Departure.lateStores }, { on := 6, ground := Go.Ground.textOnly Go.Departure.lateStores }, { on := 7, ground := Go.Ground.phase }, { on := 8, ground := Go.Ground.phase }], guard := none }) (v := ?v9_55) rfl (by kernel_rfl) (by kernel_rfl) (by kernel_rfl) (fun _ _ _ h => h) (Or.inl ⟨by rfl, ?hy9_55⟩) (by assumption) ?rest9_55
      case hy9_55 =>
        intro w' hSw
        try dsimp only at hSw
        go_simp
        try with_reducible rfl
      try simp only [Act.put, List.setIfInBounds_toArray, List.set_cons_zero, List.set_cons_succ]
      refine wpAnyH_ready (rs := [10]) (by kernel_rfl) (by simp) ?_
      refine AllReadyH.cons (o := { dst := none, op := Go.Op.store 3 (Go.Operand.tmp 43) (Go.Operand.tmp 38), type := 0, pos := "tgahead.go:172", after := #[{ on := 9, ground := Go.Ground.data }, { on := 3, ground := Go.Ground.data }, { on := 8, ground := Go.Ground.chain }, { on := 0, ground := Go.Ground.phase }, { on := 1, ground := Go.Ground.phase }, { on := 2, ground := Go.Ground.phase }, { on := 3, ground := Go.Ground.phase }, { on := 4, ground := Go.Ground.textOnly Go.Departure.lateStores }, { on := 5, ground := Go.Ground.textOnly Go.Departure.lateStores }, { on := 6, ground := Go.Ground.textOnly Go.Departure.lateStores }, { on := 7, ground := Go.Ground.phase }, { on := 8, ground := Go.Ground.phase }], guard := none }) rfl (fun K hK => ?_) AllReadyH.nil
      go_simp
      refine hK.out _ _ ?_ (fun hHeld2 => ?_)
      · first | exact trivial | go_keep
      clear hHeld
      have hHeld := hHeld2
      clear hK K hHeld2
      try simp only [Act.put, List.setIfInBounds_toArray, List.set_cons_zero, List.set_cons_succ]
      refine wpAnyH_take (i := 11) (oi := { dst := some 44, op := Go.Op.fieldAddr 47 (Go.Operand.tmp 4) 5, type := 0, pos := "tgahead.go:172", after := #[{ on := 0, ground := Go.Ground.phase }, { on := 1, ground := Go.Ground.phase }, { on := 2, ground := Go.Ground.phase }, { on := 3, ground := Go.Ground.phase }, { on := 4, ground := Go.Ground.phase }, { on := 5, ground := Go.Ground.phase }, { on := 6, ground := Go.Ground.phase }, { on := 7, ground := Go.Ground.phase }, { on := 8, ground := Go.Ground.phase }, { on := 9, ground := Go.Ground.phase }, { on := 10, ground := Go.Ground.phase }], guard := none }) (v := ?v11_56) rfl (by kernel_rfl) (by kernel_rfl) (by kernel_rfl) (fun _ _ _ h => h) (Or.inl ⟨by rfl, ?hy11_56⟩) (by assumption) ?rest11_56
      case hy11_56 =>
        intro w' hSw
        try dsimp only at hSw
        go_simp
        try with_reducible rfl
      try simp only [Act.put, List.setIfInBounds_toArray, List.set_cons_zero, List.set_cons_succ]
      refine wpAnyH_ready (rs := [12]) (by kernel_rfl) (by simp) ?_
      refine AllReadyH.cons (o := { dst := none, op := Go.Op.store 3 (Go.Operand.tmp 44) (Go.Operand.tmp 41), type := 0, pos := "tgahead.go:172", after := #[{ on := 11, ground := Go.Ground.data }, { on := 6, ground := Go.Ground.data }, { on := 10, ground := Go.Ground.chain }, { on := 0, ground := Go.Ground.phase }, { on := 1, ground := Go.Ground.phase }, { on := 2, ground := Go.Ground.phase }, { on := 3, ground := Go.Ground.phase }, { on := 4, ground := Go.Ground.phase }, { on := 5, ground := Go.Ground.phase }, { on := 6, ground := Go.Ground.phase }, { on := 7, ground := Go.Ground.phase }, { on := 8, ground := Go.Ground.phase }, { on := 9, ground := Go.Ground.phase }, { on := 10, ground := Go.Ground.phase }], guard := none }) rfl (fun K hK => ?_) AllReadyH.nil
      go_simp
      refine hK.out _ _ ?_ (fun hHeld2 => ?_)
      · first | exact trivial | go_keep
      clear hHeld
      have hHeld := hHeld2
      clear hK K hHeld2
      try simp only [Act.put, List.setIfInBounds_toArray, List.set_cons_zero, List.set_cons_succ]
      refine wpAnyH_done (by kernel_rfl) ?_ _
      refine abs_w (R := fun w => FR W w w1.heap.size (hV x0 true x2 A B x7 X Y x16 al lf tp)) ?_ (fun w3 I => ?_)
      · refine ⟨?_, ?_, HI.out.eb, ?_⟩
        · exact dn_blk (blk_other (blk_other (blk_other HI.out.res ne2) ne2) ne2)
        · exact dn_blk (blk_set (blk_set (blk_set HI.out.hd 3 (.int .i64 A)) 4 (.int .i64 B)) 5 (.int .i64 x7))
        · exact gb_trans (gb_own (gb_own (gb_own HI.out.gb hle (gb_set _ _ _ _)) hle (gb_set _ _ _ _)) hle (gb_set _ _ _ _)) (gb_drewN _ _ _)
      clear a0 a1 a2 a3 a4 a5 a6 a7 a8 a9 a10 a11 hd0 hd1 hd2 hlh ne2 hle
      have a0 : w3.cell? ⟨w1.heap.size, 0, none⟩ = some (.int .i64 x0) := blk_cell I.hd 0
      have a1 : w3.cell? ⟨w1.heap.size, 1, none⟩ = some (.bool true) := blk_cell I.hd 1
      have a2 : w3.cell? ⟨w1.heap.size, 2, none⟩ = some (.int .i64 x2) := blk_cell I.hd 2
      have a3 : w3.cell? ⟨w1.heap.size, 3, none⟩ = some (.int .i64 A) := blk_cell I.hd 3
      have a4 : w3.cell? ⟨w1.heap.size, 4, none⟩ = some (.int .i64 B) := blk_cell I.hd 4
      have a5 : w3.cell? ⟨w1.heap.size, 5, none⟩ = some (.int .i64 x7) := blk_cell I.hd 5
      have a6 : w3.cell? ⟨w1.heap.size, 6, none⟩ = some (.int .i64 X) := blk_cell I.hd 6
      have a7 : w3.cell? ⟨w1.heap.size, 7, none⟩ = some (.int .i64 Y) := blk_cell I.hd 7
      have a8 : w3.cell? ⟨w1.heap.size, 8, none⟩ = some (.int .i64 x16) := blk_cell I.hd 8
      have a9 : w3.cell? ⟨w1.heap.size, 9, none⟩ = some (.int .i64 al) := blk_cell I.hd 9
      have a10 : w3.cell? ⟨w1.heap.size, 10, none⟩ = some (.bool lf) := blk_cell I.hd 10
      have a11 : w3.cell? ⟨w1.heap.size, 11, none⟩ = some (.bool tp) := blk_cell I.hd 11
      have r0 : w3.cell? ⟨W.heap.size, 0, none⟩ = some (.int .i64 0) := blk_cell I.res 0
      have rf0 := blk_free I.res 0
      have r1 : w3.cell? ⟨W.heap.size, 1, none⟩ = some (.bool false) := blk_cell I.res 1
      have rf1 := blk_free I.res 1
      have r2 : w3.cell? ⟨W.heap.size, 2, none⟩ = some (.int .i64 0) := blk_cell I.res 2
      have rf2 := blk_free I.res 2
      have r3 : w3.cell? ⟨W.heap.size, 3, none⟩ = some (.int .i64 0) := blk_cell I.res 3
      have rf3 := blk_free I.res 3
      have r4 : w3.cell? ⟨W.heap.size, 4, none⟩ = some (.int .i64 0) := blk_cell I.res 4
      have rf4 := blk_free I.res 4
      have r5 : w3.cell? ⟨W.heap.size, 5, none⟩ = some (.int .i64 0) := blk_cell I.res 5
      have rf5 := blk_free I.res 5
      have r6 : w3.cell? ⟨W.heap.size, 6, none⟩ = some (.int .i64 0) := blk_cell I.res 6
      have rf6 := blk_free I.res 6
      have r7 : w3.cell? ⟨W.heap.size, 7, none⟩ = some (.int .i64 0) := blk_cell I.res 7
      have rf7 := blk_free I.res 7
      have r8 : w3.cell? ⟨W.heap.size, 8, none⟩ = some (.int .i64 0) := blk_cell I.res 8
      have rf8 := blk_free I.res 8
      have r9 : w3.cell? ⟨W.heap.size, 9, none⟩ = some (.int .i64 0) := blk_cell I.res 9
      have rf9 := blk_free I.res 9
      have r10 : w3.cell? ⟨W.heap.size, 10, none⟩ = some (.bool false) := blk_cell I.res 10
      have rf10 := blk_free I.res 10
      have r11 : w3.cell? ⟨W.heap.size, 11, none⟩ = some (.bool false) := blk_cell I.res 11
      have rf11 := blk_free I.res 11
      have hlr := blk_lt I.res
      have hlh := blk_lt I.hd
      have ne1 : w1.heap.size ≠ W.heap.size := by have := I.eb; omega
      have ne2 : W.heap.size ≠ w1.heap.size := by have := I.eb; omega
      have GI := Lib.hid I.gb
      clear I hc2 hHeld HI
      go_wp2
      refine bodyPost_ret (v := .agg #[.int .i64 x0, .bool true, .int .i64 x2, .int .i64 A, .int .i64 B, .int .i64 x7, .int .i64 X, .int .i64 Y, .int .i64 x16, .int .i64 al, .bool lf, .bool tp]) (by simp only [results, Tryd.results39]; go_simp) rfl ⟨rfl, ?_⟩
      exact gb_own (gb_own (gb_own (gb_own (gb_own (gb_own (gb_own (gb_own (gb_own (gb_own (gb_own (gb_own (GI.out) (Nat.le_refl _) (gb_set _ _ _ _)) (Nat.le_refl _) (gb_set _ _ _ _)) (Nat.le_refl _) (gb_set _ _ _ _)) (Nat.le_refl _) (gb_set _ _ _ _)) (Nat.le_refl _) (gb_set _ _ _ _)) (Nat.le_refl _) (gb_set _ _ _ _)) (Nat.le_refl _) (gb_set _ _ _ _)) (Nat.le_refl _) (gb_set _ _ _ _)) (Nat.le_refl _) (gb_set _ _ _ _)) (Nat.le_refl _) (gb_set _ _ _ _)) (Nat.le_refl _) (gb_set _ _ _ _)) (Nat.le_refl _) (gb_set _ _ _ _)
    refine AllReadyH.cons (o := { dst := some 4, op := Go.Op.alloc 47, type := 0, pos := "tgahead.go:160", after := #[], guard := none }) rfl (fun K hK => ?_) AllReadyH.nil
    go_simp
    refine hK.out _ _ ?_ (fun hHeld2 => ?_)
    · first | exact trivial | go_keep
    clear hHeld
    have hHeld := hHeld2
    clear hK K hHeld2
    try simp only [Act.put, List.setIfInBounds_toArray, List.set_cons_zero, List.set_cons_succ]
    refine wpAnyH_ready (rs := [12]) (by kernel_rfl) (by simp) ?_
    refine AllReadyH.cons (o := { dst := some 20, op := Go.Op.call { callee := Go.Callee.value (Go.Operand.func 58), args := #[Go.Operand.tmp 19, Go.Operand.const (Go.Value.int Go.IntKind.i64 14)], argTypes := #[9, 3] }, type := 3, pos := "tgahead.go:165", after := #[{ on := 11, ground := Go.Ground.data }, { on := 10, ground := Go.Ground.chain }], guard := none }) rfl (fun K hK => ?_) AllReadyH.nil
    go_simp
    refine (HKY.out _).mono ?_
    rintro e w' ⟨rfl, n2, rfl⟩
    try go_wp2_with fail
    refine hK.out _ _ ?_ (fun hHeld2 => ?_)
    · first | exact trivial | go_keep
    clear hHeld
    have hHeld := hHeld2
    clear hK K hHeld2
    try simp only [Act.put, List.setIfInBounds_toArray, List.set_cons_zero, List.set_cons_succ]
    refine wpAnyH_take (i := 24) (oi := { dst := some 32, op := Go.Op.build 47 #[(0, Go.Operand.tmp 10), (1, Go.Operand.tmp 13), (2, Go.Operand.tmp 16), (6, Go.Operand.tmp 18), (7, Go.Operand.tmp 20), (8, Go.Operand.tmp 23), (9, Go.Operand.tmp 25), (10, Go.Operand.tmp 28), (11, Go.Operand.tmp 31)], type := 47, pos := "tgahead.go:160", after := #[{ on := 2, ground := Go.Ground.data }, { on := 5, ground := Go.Ground.data }, { on := 8, ground := Go.Ground.data }, { on := 10, ground := Go.Ground.data }, { on := 12, ground := Go.Ground.data }, { on := 15, ground := Go.Ground.data }, { on := 17, ground := Go.Ground.data }, { on := 20, ground := Go.Ground.data }, { on := 23, ground := Go.Ground.data }], guard := none }) (v := ?v24_57) rfl (by kernel_rfl) (by kernel_rfl) (by kernel_rfl) (fun _ _ _ h => h) (Or.inl ⟨by rfl, ?hy24_57⟩) (by assumption) ?rest24_57
    case hy24_57 =>
      intro w' hSw
      try dsimp only at hSw
      go_simp
      try with_reducible rfl
    try simp only [Act.put, List.setIfInBounds_toArray, List.set_cons_zero, List.set_cons_succ]
    refine wpAnyH_ready (rs := [26]) (by kernel_rfl) (by simp) ?_
    refine AllReadyH.cons (o := { dst := none, op := Go.Op.store 47 (Go.Operand.tmp 4) (Go.Operand.tmp 32), type := 0, pos := "tgahead.go:160", after := #[{ on := 25, ground := Go.Ground.data }, { on := 24, ground := Go.Ground.data }, { on := 12, ground := Go.Ground.chain }, { on := 0, ground := Go.Ground.phase }, { on := 1, ground := Go.Ground.phase }, { on := 2, ground := Go.Ground.phase }, { on := 3, ground := Go.Ground.phase }, { on := 4, ground := Go.Ground.phase }, { on := 5, ground := Go.Ground.phase }, { on := 6, ground := Go.Ground.phase }, { on := 7, ground := Go.Ground.phase }, { on := 8, ground := Go.Ground.phase }, { on := 9, ground := Go.Ground.phase }, { on := 10, ground := Go.Ground.phase }, { on := 11, ground := Go.Ground.phase }, { on := 12, ground := Go.Ground.phase }, { on := 13, ground := Go.Ground.phase }, { on := 14, ground := Go.Ground.phase }, { on := 15, ground := Go.Ground.phase }, { on := 16, ground := Go.Ground.phase }, { on := 17, ground := Go.Ground.phase }, { on := 18, ground := Go.Ground.phase }, { on := 19, ground := Go.Ground.phase }, { on := 20, ground := Go.Ground.phase }, { on := 21, ground := Go.Ground.phase }, { on := 22, ground := Go.Ground.phase }, { on := 23, ground := Go.Ground.phase }, { on := 24, ground := Go.Ground.phase }, { on := 25, ground := Go.Ground.phase }], guard := none }) rfl (fun K hK => ?_) AllReadyH.nil
    go_simp
    refine hK.out _ _ ?_ (fun hHeld2 => ?_)
    · first | exact trivial | go_keep
    clear hHeld
    have hHeld := hHeld2
    clear hK K hHeld2
    try simp only [Act.put, List.setIfInBounds_toArray, List.set_cons_zero, List.set_cons_succ]
    refine wpAnyH_done (by kernel_rfl) ?_ _
    refine abs_w (R := fun w => FR W w w1.heap.size (hV x0 true x2 0 0 0 X Y x16 al lf tp)) ?_ (fun w2 I => ?_)
    · refine ⟨?_, ?_, HZ.out, ?_⟩
      · exact FR_res HR.out
      · exact FR_new rfl
      · exact FR_gb HG.out
    have a0 : w2.cell? ⟨w1.heap.size, 0, none⟩ = some (.int .i64 x0) := blk_cell I.hd 0
    have a1 : w2.cell? ⟨w1.heap.size, 1, none⟩ = some (.bool true) := blk_cell I.hd 1
    have a2 : w2.cell? ⟨w1.heap.size, 2, none⟩ = some (.int .i64 x2) := blk_cell I.hd 2
    have a3 : w2.cell? ⟨w1.heap.size, 3, none⟩ = some (.int .i64 0) := blk_cell I.hd 3
    have a4 : w2.cell? ⟨w1.heap.size, 4, none⟩ = some (.int .i64 0) := blk_cell I.hd 4
    have a5 : w2.cell? ⟨w1.heap.size, 5, none⟩ = some (.int .i64 0) := blk_cell I.hd 5
    have a6 : w2.cell? ⟨w1.heap.size, 6, none⟩ = some (.int .i64 X) := blk_cell I.hd 6
    have a7 : w2.cell? ⟨w1.heap.size, 7, none⟩ = some (.int .i64 Y) := blk_cell I.hd 7
    have a8 : w2.cell? ⟨w1.heap.size, 8, none⟩ = some (.int .i64 x16) := blk_cell I.hd 8
    have a9 : w2.cell? ⟨w1.heap.size, 9, none⟩ = some (.int .i64 al) := blk_cell I.hd 9
    have a10 : w2.cell? ⟨w1.heap.size, 10, none⟩ = some (.bool lf) := blk_cell I.hd 10
    have a11 : w2.cell? ⟨w1.heap.size, 11, none⟩ = some (.bool tp) := blk_cell I.hd 11
    have hd0 := blk_free I.hd 3
    have hd1 := blk_free I.hd 4
    have hd2 := blk_free I.hd 5
    have hlh := blk_lt I.hd
    have ne2 : W.heap.size ≠ w1.heap.size := by have := I.eb; omega
    have hle : W.heap.size ≤ w1.heap.size := by have := I.eb; omega
    have HI := Lib.hid I
    clear I hc1 hHeld HR HG HZ
    go_wp2_with fail
    refine wp_region_held_drew (S := fun _ => True) (by kernel_rfl) ?_ (fun hHeld => ?_)
    · first | exact trivial | go_keep
    refine wpAnyH_take (i := 0) (oi := { dst := some 35, op := Go.Op.move (Go.Operand.tmp 0), type := 9, pos := "tgahead.go:172", after := #[], guard := none }) (v := ?v0_58) rfl (by kernel_rfl) (by kernel_rfl) (by kernel_rfl) (fun _ _ _ h => h) (Or.inl ⟨by rfl, ?hy0_58⟩) (by assumption) ?rest0_58
    case hy0_58 =>
      intro w' hSw
      try dsimp only at hSw
      go_simp
      try with_reducible rfl
    try simp only [Act.put, List.setIfInBounds_toArray, List.set_cons_zero, List.set_cons_succ]
    refine wpAnyH_take (i := 2) (oi := { dst := some 37, op := Go.Op.move (Go.Operand.tmp 0), type := 9, pos := "tgahead.go:172", after := #[], guard := none }) (v := ?v2_59) rfl (by kernel_rfl) (by kernel_rfl) (by kernel_rfl) (fun _ _ _ h => h) (Or.inl ⟨by rfl, ?hy2_59⟩) (by assumption) ?rest2_59
    case hy2_59 =>
      intro w' hSw
      try dsimp only at hSw
      go_simp
      try with_reducible rfl
    try simp only [Act.put, List.setIfInBounds_toArray, List.set_cons_zero, List.set_cons_succ]
    refine wpAnyH_take (i := 4) (oi := { dst := some 39, op := Go.Op.move (Go.Operand.tmp 0), type := 9, pos := "tgahead.go:172", after := #[{ on := 10, ground := Go.Ground.gcOnly Go.Departure.lateStores }], guard := none }) (v := ?v4_60) rfl (by kernel_rfl) (by kernel_rfl) (by kernel_rfl) (fun _ _ _ h => h) (Or.inl ⟨by rfl, ?hy4_60⟩) (by assumption) ?rest4_60
    case hy4_60 =>
      intro w' hSw
      try dsimp only at hSw
      go_simp
      try with_reducible rfl
    try simp only [Act.put, List.setIfInBounds_toArray, List.set_cons_zero, List.set_cons_succ]
    refine wpAnyH_take (i := 5) (oi := { dst := some 40, op := Go.Op.index 9 (Go.Operand.tmp 39) (Go.Operand.const (Go.Value.int Go.IntKind.i64 7)), type := 5, pos := "tgahead.go:172", after := #[{ on := 4, ground := Go.Ground.data }, { on := 10, ground := Go.Ground.gcOnly Go.Departure.lateStores }], guard := none }) (v := ?v5_61) rfl (by kernel_rfl) (by kernel_rfl) (by kernel_rfl) (fun _ _ _ h => h) (Or.inl ⟨by rfl, ?hy5_61⟩) (by assumption) ?rest5_61
    case hy5_61 =>
      intro w' hSw
      try dsimp only at hSw
      go_simp
      try with_reducible rfl
    try simp only [Act.put, List.setIfInBounds_toArray, List.set_cons_zero, List.set_cons_succ]
    refine wpAnyH_take (i := 6) (oi := { dst := some 41, op := Go.Op.convert 5 3 (Go.Operand.tmp 40), type := 3, pos := "tgahead.go:172", after := #[{ on := 5, ground := Go.Ground.data }, { on := 10, ground := Go.Ground.gcOnly Go.Departure.lateStores }], guard := none }) (v := ?v6_62) rfl (by kernel_rfl) (by kernel_rfl) (by kernel_rfl) (fun _ _ _ h => h) (Or.inl ⟨by rfl, ?hy6_62⟩) (by assumption) ?rest6_62
    case hy6_62 =>
      intro w' hSw
      try dsimp only at hSw
      go_simp
      try with_reducible rfl
    try simp only [Act.put, List.setIfInBounds_toArray, List.set_cons_zero, List.set_cons_succ]
    refine wpAnyH_ready (rs := [1]) (by kernel_rfl) (by simp) ?_
    refine AllReadyH.cons (o := { dst := some 36, op := Go.Op.call { callee := Go.Callee.value (Go.Operand.func 58), args := #[Go.Operand.tmp 35, Go.Operand.const (Go.Value.int Go.IntKind.i64 3)], argTypes := #[9, 3] }, type := 3, pos := "tgahead.go:172", after := #[{ on := 0, ground := Go.Ground.data }], guard := none }) rfl (fun K hK => ?_) AllReadyH.nil
    go_simp
    refine (HKA.out _).mono ?_
    rintro e w' ⟨rfl, n3, rfl⟩
    try go_wp2_with fail
    refine hK.out _ _ ?_ (fun hHeld2 => ?_)
    · first | exact trivial | go_keep
    clear hHeld
    have hHeld := hHeld2
    clear hK K hHeld2
    try simp only [Act.put, List.setIfInBounds_toArray, List.set_cons_zero, List.set_cons_succ]
    refine wpAnyH_take (i := 7) (oi := { dst := some 42, op := Go.Op.fieldAddr 47 (Go.Operand.tmp 4) 3, type := 0, pos := "tgahead.go:172", after := #[{ on := 0, ground := Go.Ground.phase }, { on := 1, ground := Go.Ground.phase }, { on := 2, ground := Go.Ground.textOnly Go.Departure.lateStores }, { on := 3, ground := Go.Ground.textOnly Go.Departure.lateStoresUnsure }, { on := 4, ground := Go.Ground.textOnly Go.Departure.lateStores }, { on := 5, ground := Go.Ground.textOnly Go.Departure.lateStores }, { on := 6, ground := Go.Ground.textOnly Go.Departure.lateStores }], guard := none }) (v := ?v7_63) rfl (by kernel_rfl) (by kernel_rfl) (by kernel_rfl) (fun _ _ _ h => h) (Or.inl ⟨by rfl, ?hy7_63⟩) (by assumption) ?rest7_63
    case hy7_63 =>
      intro w' hSw
      try dsimp only at hSw
      go_simp
      try with_reducible rfl
    try simp only [Act.put, List.setIfInBounds_toArray, List.set_cons_zero, List.set_cons_succ]
    refine wpAnyH_ready (rs := [3]) (by kernel_rfl) (by simp) ?_
    refine AllReadyH.cons (o := { dst := some 38, op := Go.Op.call { callee := Go.Callee.value (Go.Operand.func 58), args := #[Go.Operand.tmp 37, Go.Operand.const (Go.Value.int Go.IntKind.i64 5)], argTypes := #[9, 3] }, type := 3, pos := "tgahead.go:172", after := #[{ on := 2, ground := Go.Ground.data }, { on := 1, ground := Go.Ground.chain }], guard := none }) rfl (fun K hK => ?_) AllReadyH.nil
    go_simp
    refine (HKB.out _).mono ?_
    rintro e w' ⟨rfl, n4, rfl⟩
    try go_wp2_with fail
    refine hK.out _ _ ?_ (fun hHeld2 => ?_)
    · first | exact trivial | go_keep
    clear hHeld
    have hHeld := hHeld2
    clear hK K hHeld2
    try simp only [Act.put, List.setIfInBounds_toArray, List.set_cons_zero, List.set_cons_succ]
    refine wpAnyH_ready (rs := [8]) (by kernel_rfl) (by simp) ?_
    refine AllReadyH.cons (o := { dst := none, op := Go.Op.store 3 (Go.Operand.tmp 42) (Go.Operand.tmp 36), type := 0, pos := "tgahead.go:172", after := #[{ on := 7, ground := Go.Ground.data }, { on := 1, ground := Go.Ground.data }, { on := 3, ground := Go.Ground.chain }, { on := 0, ground := Go.Ground.phase }, { on := 1, ground := Go.Ground.phase }, { on := 2, ground := Go.Ground.textOnly Go.Departure.lateStores }, { on := 3, ground := Go.Ground.textOnly Go.Departure.lateStoresUnsure }, { on := 4, ground := Go.Ground.textOnly Go.Departure.lateStores }, { on := 5, ground := Go.Ground.textOnly Go.Departure.lateStores }, { on := 6, ground := Go.Ground.textOnly Go.Departure.lateStores }], guard := none }) rfl (fun K hK => ?_) AllReadyH.nil
    go_simp
    refine hK.out _ _ ?_ (fun hHeld2 => ?_)
    · first | exact trivial | go_keep
    clear hHeld
    have hHeld := hHeld2
    clear hK K hHeld2
    try simp only [Act.put, List.setIfInBounds_toArray, List.set_cons_zero, List.set_cons_succ]
    refine wpAnyH_take (i := 9) (oi := { dst := some 43, op := Go.Op.fieldAddr 47 (Go.Operand.tmp 4) 4, type := 0, pos := "tgahead.go:172", after := #[{ on := 0, ground := Go.Ground.phase }, { on := 1, ground := Go.Ground.phase }, { on := 2, ground := Go.Ground.phase }, { on := 3, ground := Go.Ground.phase }, { on := 4, ground := Go.Ground.textOnly Go.Departure.lateStores }, { on := 5, ground := Go.Ground.textOnly Go.Departure.lateStores }, { on := 6, ground := Go.Ground.textOnly Go.Departure.lateStores }, { on := 7, ground := Go.Ground.phase }, { on := 8, ground := Go.Ground.phase }], guard := none }) (v := ?v9_64) rfl (by kernel_rfl) (by kernel_rfl) (by kernel_rfl) (fun _ _ _ h => h) (Or.inl ⟨by rfl, ?hy9_64⟩) (by assumption) ?rest9_64
    case hy9_64 =>
      intro w' hSw
      try dsimp only at hSw
      go_simp
      try with_reducible rfl
    try simp only [Act.put, List.setIfInBounds_toArray, List.set_cons_zero, List.set_cons_succ]
    refine wpAnyH_ready (rs := [10]) (by kernel_rfl) (by simp) ?_
    refine AllReadyH.cons (o := { dst := none, op := Go.Op.store 3 (Go.Operand.tmp 43) (Go.Operand.tmp 38), type := 0, pos := "tgahead.go:172", after := #[{ on := 9, ground := Go.Ground.data }, { on := 3, ground := Go.Ground.data }, { on := 8, ground := Go.Ground.chain }, { on := 0, ground := Go.Ground.phase }, { on := 1, ground := Go.Ground.phase }, { on := 2, ground := Go.Ground.phase }, { on := 3, ground := Go.Ground.phase }, { on := 4, ground := Go.Ground.textOnly Go.Departure.lateStores }, { on := 5, ground := Go.Ground.textOnly Go.Departure.lateStores }, { on := 6, ground := Go.Ground.textOnly Go.Departure.lateStores }, { on := 7, ground := Go.Ground.phase }, { on := 8, ground := Go.Ground.phase }], guard := none }) rfl (fun K hK => ?_) AllReadyH.nil
    go_simp
    refine hK.out _ _ ?_ (fun hHeld2 => ?_)
    · first | exact trivial | go_keep
    clear hHeld
    have hHeld := hHeld2
    clear hK K hHeld2
    try simp only [Act.put, List.setIfInBounds_toArray, List.set_cons_zero, List.set_cons_succ]
    refine wpAnyH_take (i := 11) (oi := { dst := some 44, op := Go.Op.fieldAddr 47 (Go.Operand.tmp 4) 5, type := 0, pos := "tgahead.go:172", after := #[{ on := 0, ground := Go.Ground.phase }, { on := 1, ground := Go.Ground.phase }, { on := 2, ground := Go.Ground.phase }, { on := 3, ground := Go.Ground.phase }, { on := 4, ground := Go.Ground.phase }, { on := 5, ground := Go.Ground.phase }, { on := 6, ground := Go.Ground.phase }, { on := 7, ground := Go.Ground.phase }, { on := 8, ground := Go.Ground.phase }, { on := 9, ground := Go.Ground.phase }, { on := 10, ground := Go.Ground.phase }], guard := none }) (v := ?v11_65) rfl (by kernel_rfl) (by kernel_rfl) (by kernel_rfl) (fun _ _ _ h => h) (Or.inl ⟨by rfl, ?hy11_65⟩) (by assumption) ?rest11_65
    case hy11_65 =>
      intro w' hSw
      try dsimp only at hSw
      go_simp
      try with_reducible rfl
    try simp only [Act.put, List.setIfInBounds_toArray, List.set_cons_zero, List.set_cons_succ]
    refine wpAnyH_ready (rs := [12]) (by kernel_rfl) (by simp) ?_
    refine AllReadyH.cons (o := { dst := none, op := Go.Op.store 3 (Go.Operand.tmp 44) (Go.Operand.tmp 41), type := 0, pos := "tgahead.go:172", after := #[{ on := 11, ground := Go.Ground.data }, { on := 6, ground := Go.Ground.data }, { on := 10, ground := Go.Ground.chain }, { on := 0, ground := Go.Ground.phase }, { on := 1, ground := Go.Ground.phase }, { on := 2, ground := Go.Ground.phase }, { on := 3, ground := Go.Ground.phase }, { on := 4, ground := Go.Ground.phase }, { on := 5, ground := Go.Ground.phase }, { on := 6, ground := Go.Ground.phase }, { on := 7, ground := Go.Ground.phase }, { on := 8, ground := Go.Ground.phase }, { on := 9, ground := Go.Ground.phase }, { on := 10, ground := Go.Ground.phase }], guard := none }) rfl (fun K hK => ?_) AllReadyH.nil
    go_simp
    refine hK.out _ _ ?_ (fun hHeld2 => ?_)
    · first | exact trivial | go_keep
    clear hHeld
    have hHeld := hHeld2
    clear hK K hHeld2
    try simp only [Act.put, List.setIfInBounds_toArray, List.set_cons_zero, List.set_cons_succ]
    refine wpAnyH_done (by kernel_rfl) ?_ _
    refine abs_w (R := fun w => FR W w w1.heap.size (hV x0 true x2 A B x7 X Y x16 al lf tp)) ?_ (fun w3 I => ?_)
    · refine ⟨?_, ?_, HI.out.eb, ?_⟩
      · exact dn_blk (blk_other (blk_other (blk_other HI.out.res ne2) ne2) ne2)
      · exact dn_blk (blk_set (blk_set (blk_set HI.out.hd 3 (.int .i64 A)) 4 (.int .i64 B)) 5 (.int .i64 x7))
      · exact gb_trans (gb_own (gb_own (gb_own HI.out.gb hle (gb_set _ _ _ _)) hle (gb_set _ _ _ _)) hle (gb_set _ _ _ _)) (gb_drewN _ _ _)
    clear a0 a1 a2 a3 a4 a5 a6 a7 a8 a9 a10 a11 hd0 hd1 hd2 hlh ne2 hle
    have a0 : w3.cell? ⟨w1.heap.size, 0, none⟩ = some (.int .i64 x0) := blk_cell I.hd 0
    have a1 : w3.cell? ⟨w1.heap.size, 1, none⟩ = some (.bool true) := blk_cell I.hd 1
    have a2 : w3.cell? ⟨w1.heap.size, 2, none⟩ = some (.int .i64 x2) := blk_cell I.hd 2
    have a3 : w3.cell? ⟨w1.heap.size, 3, none⟩ = some (.int .i64 A) := blk_cell I.hd 3
    have a4 : w3.cell? ⟨w1.heap.size, 4, none⟩ = some (.int .i64 B) := blk_cell I.hd 4
    have a5 : w3.cell? ⟨w1.heap.size, 5, none⟩ = some (.int .i64 x7) := blk_cell I.hd 5
    have a6 : w3.cell? ⟨w1.heap.size, 6, none⟩ = some (.int .i64 X) := blk_cell I.hd 6
    have a7 : w3.cell? ⟨w1.heap.size, 7, none⟩ = some (.int .i64 Y) := blk_cell I.hd 7
    have a8 : w3.cell? ⟨w1.heap.size, 8, none⟩ = some (.int .i64 x16) := blk_cell I.hd 8
    have a9 : w3.cell? ⟨w1.heap.size, 9, none⟩ = some (.int .i64 al) := blk_cell I.hd 9
    have a10 : w3.cell? ⟨w1.heap.size, 10, none⟩ = some (.bool lf) := blk_cell I.hd 10
    have a11 : w3.cell? ⟨w1.heap.size, 11, none⟩ = some (.bool tp) := blk_cell I.hd 11
    have r0 : w3.cell? ⟨W.heap.size, 0, none⟩ = some (.int .i64 0) := blk_cell I.res 0
    have rf0 := blk_free I.res 0
    have r1 : w3.cell? ⟨W.heap.size, 1, none⟩ = some (.bool false) := blk_cell I.res 1
    have rf1 := blk_free I.res 1
    have r2 : w3.cell? ⟨W.heap.size, 2, none⟩ = some (.int .i64 0) := blk_cell I.res 2
    have rf2 := blk_free I.res 2
    have r3 : w3.cell? ⟨W.heap.size, 3, none⟩ = some (.int .i64 0) := blk_cell I.res 3
    have rf3 := blk_free I.res 3
    have r4 : w3.cell? ⟨W.heap.size, 4, none⟩ = some (.int .i64 0) := blk_cell I.res 4
    have rf4 := blk_free I.res 4
    have r5 : w3.cell? ⟨W.heap.size, 5, none⟩ = some (.int .i64 0) := blk_cell I.res 5
    have rf5 := blk_free I.res 5
    have r6 : w3.cell? ⟨W.heap.size, 6, none⟩ = some (.int .i64 0) := blk_cell I.res 6
    have rf6 := blk_free I.res 6
    have r7 : w3.cell? ⟨W.heap.size, 7, none⟩ = some (.int .i64 0) := blk_cell I.res 7
    have rf7 := blk_free I.res 7
    have r8 : w3.cell? ⟨W.heap.size, 8, none⟩ = some (.int .i64 0) := blk_cell I.res 8
    have rf8 := blk_free I.res 8
    have r9 : w3.cell? ⟨W.heap.size, 9, none⟩ = some (.int .i64 0) := blk_cell I.res 9
    have rf9 := blk_free I.res 9
    have r10 : w3.cell? ⟨W.heap.size, 10, none⟩ = some (.bool false) := blk_cell I.res 10
    have rf10 := blk_free I.res 10
    have r11 : w3.cell? ⟨W.heap.size, 11, none⟩ = some (.bool false) := blk_cell I.res 11
    have rf11 := blk_free I.res 11
    have hlr := blk_lt I.res
    have hlh := blk_lt I.hd
    have ne1 : w1.heap.size ≠ W.heap.size := by have := I.eb; omega
    have ne2 : W.heap.size ≠ w1.heap.size := by have := I.eb; omega
    have GI := Lib.hid I.gb
    clear I hc2 hHeld HI
    go_wp2
    refine bodyPost_ret (v := .agg #[.int .i64 x0, .bool true, .int .i64 x2, .int .i64 A, .int .i64 B, .int .i64 x7, .int .i64 X, .int .i64 Y, .int .i64 x16, .int .i64 al, .bool lf, .bool tp]) (by simp only [results, Tryd.results39]; go_simp) rfl ⟨rfl, ?_⟩
    exact gb_own (gb_own (gb_own (gb_own (gb_own (gb_own (gb_own (gb_own (gb_own (gb_own (gb_own (gb_own (GI.out) (Nat.le_refl _) (gb_set _ _ _ _)) (Nat.le_refl _) (gb_set _ _ _ _)) (Nat.le_refl _) (gb_set _ _ _ _)) (Nat.le_refl _) (gb_set _ _ _ _)) (Nat.le_refl _) (gb_set _ _ _ _)) (Nat.le_refl _) (gb_set _ _ _ _)) (Nat.le_refl _) (gb_set _ _ _ _)) (Nat.le_refl _) (gb_set _ _ _ _)) (Nat.le_refl _) (gb_set _ _ _ _)) (Nat.le_refl _) (gb_set _ _ _ _)) (Nat.le_refl _) (gb_set _ _ _ _)) (Nat.le_refl _) (gb_set _ _ _ _)
  refine AllReadyH.cons (o := { dst := some 4, op := Go.Op.alloc 47, type := 0, pos := "tgahead.go:160", after := #[], guard := none }) rfl (fun K hK => ?_) AllReadyH.nil
  go_simp
  refine hK.out _ _ ?_ (fun hHeld2 => ?_)
  · first | exact trivial | go_keep
  clear hHeld
  have hHeld := hHeld2
  clear hK K hHeld2
  try simp only [Act.put, List.setIfInBounds_toArray, List.set_cons_zero, List.set_cons_succ]
  refine wpAnyH_ready (rs := [10]) (by kernel_rfl) (by simp) ?_
  refine AllReadyH.cons (o := { dst := some 18, op := Go.Op.call { callee := Go.Callee.value (Go.Operand.func 58), args := #[Go.Operand.tmp 17, Go.Operand.const (Go.Value.int Go.IntKind.i64 12)], argTypes := #[9, 3] }, type := 3, pos := "tgahead.go:164", after := #[{ on := 9, ground := Go.Ground.data }], guard := none }) rfl (fun K hK => ?_) AllReadyH.nil
  go_simp
  refine (HKX.out _).mono ?_
  rintro e w' ⟨rfl, n1, rfl⟩
  try go_wp2_with fail
  refine hK.out _ _ ?_ (fun hHeld2 => ?_)
  · first | exact trivial | go_keep
  clear hHeld
  have hHeld := hHeld2
  clear hK K hHeld2
  try simp only [Act.put, List.setIfInBounds_toArray, List.set_cons_zero, List.set_cons_succ]
  refine wpAnyH_ready (rs := [12]) (by kernel_rfl) (by simp) ?_
  refine AllReadyH.cons (o := { dst := some 20, op := Go.Op.call { callee := Go.Callee.value (Go.Operand.func 58), args := #[Go.Operand.tmp 19, Go.Operand.const (Go.Value.int Go.IntKind.i64 14)], argTypes := #[9, 3] }, type := 3, pos := "tgahead.go:165", after := #[{ on := 11, ground := Go.Ground.data }, { on := 10, ground := Go.Ground.chain }], guard := none }) rfl (fun K hK => ?_) AllReadyH.nil
  go_simp
  refine (HKY.out _).mono ?_
  rintro e w' ⟨rfl, n2, rfl⟩
  try go_wp2_with fail
  refine hK.out _ _ ?_ (fun hHeld2 => ?_)
  · first | exact trivial | go_keep
  clear hHeld
  have hHeld := hHeld2
  clear hK K hHeld2
  try simp only [Act.put, List.setIfInBounds_toArray, List.set_cons_zero, List.set_cons_succ]
  refine wpAnyH_take (i := 24) (oi := { dst := some 32, op := Go.Op.build 47 #[(0, Go.Operand.tmp 10), (1, Go.Operand.tmp 13), (2, Go.Operand.tmp 16), (6, Go.Operand.tmp 18), (7, Go.Operand.tmp 20), (8, Go.Operand.tmp 23), (9, Go.Operand.tmp 25), (10, Go.Operand.tmp 28), (11, Go.Operand.tmp 31)], type := 47, pos := "tgahead.go:160", after := #[{ on := 2, ground := Go.Ground.data }, { on := 5, ground := Go.Ground.data }, { on := 8, ground := Go.Ground.data }, { on := 10, ground := Go.Ground.data }, { on := 12, ground := Go.Ground.data }, { on := 15, ground := Go.Ground.data }, { on := 17, ground := Go.Ground.data }, { on := 20, ground := Go.Ground.data }, { on := 23, ground := Go.Ground.data }], guard := none }) (v := ?v24_66) rfl (by kernel_rfl) (by kernel_rfl) (by kernel_rfl) (fun _ _ _ h => h) (Or.inl ⟨by rfl, ?hy24_66⟩) (by assumption) ?rest24_66
  case hy24_66 =>
    intro w' hSw
    try dsimp only at hSw
    go_simp
    try with_reducible rfl
  try simp only [Act.put, List.setIfInBounds_toArray, List.set_cons_zero, List.set_cons_succ]
  refine wpAnyH_ready (rs := [26]) (by kernel_rfl) (by simp) ?_
  refine AllReadyH.cons (o := { dst := none, op := Go.Op.store 47 (Go.Operand.tmp 4) (Go.Operand.tmp 32), type := 0, pos := "tgahead.go:160", after := #[{ on := 25, ground := Go.Ground.data }, { on := 24, ground := Go.Ground.data }, { on := 12, ground := Go.Ground.chain }, { on := 0, ground := Go.Ground.phase }, { on := 1, ground := Go.Ground.phase }, { on := 2, ground := Go.Ground.phase }, { on := 3, ground := Go.Ground.phase }, { on := 4, ground := Go.Ground.phase }, { on := 5, ground := Go.Ground.phase }, { on := 6, ground := Go.Ground.phase }, { on := 7, ground := Go.Ground.phase }, { on := 8, ground := Go.Ground.phase }, { on := 9, ground := Go.Ground.phase }, { on := 10, ground := Go.Ground.phase }, { on := 11, ground := Go.Ground.phase }, { on := 12, ground := Go.Ground.phase }, { on := 13, ground := Go.Ground.phase }, { on := 14, ground := Go.Ground.phase }, { on := 15, ground := Go.Ground.phase }, { on := 16, ground := Go.Ground.phase }, { on := 17, ground := Go.Ground.phase }, { on := 18, ground := Go.Ground.phase }, { on := 19, ground := Go.Ground.phase }, { on := 20, ground := Go.Ground.phase }, { on := 21, ground := Go.Ground.phase }, { on := 22, ground := Go.Ground.phase }, { on := 23, ground := Go.Ground.phase }, { on := 24, ground := Go.Ground.phase }, { on := 25, ground := Go.Ground.phase }], guard := none }) rfl (fun K hK => ?_) AllReadyH.nil
  go_simp
  refine hK.out _ _ ?_ (fun hHeld2 => ?_)
  · first | exact trivial | go_keep
  clear hHeld
  have hHeld := hHeld2
  clear hK K hHeld2
  try simp only [Act.put, List.setIfInBounds_toArray, List.set_cons_zero, List.set_cons_succ]
  refine wpAnyH_done (by kernel_rfl) ?_ _
  refine abs_w (R := fun w => FR W w w1.heap.size (hV x0 true x2 0 0 0 X Y x16 al lf tp)) ?_ (fun w2 I => ?_)
  · refine ⟨?_, ?_, HZ.out, ?_⟩
    · exact FR_res HR.out
    · exact FR_new rfl
    · exact FR_gb HG.out
  have a0 : w2.cell? ⟨w1.heap.size, 0, none⟩ = some (.int .i64 x0) := blk_cell I.hd 0
  have a1 : w2.cell? ⟨w1.heap.size, 1, none⟩ = some (.bool true) := blk_cell I.hd 1
  have a2 : w2.cell? ⟨w1.heap.size, 2, none⟩ = some (.int .i64 x2) := blk_cell I.hd 2
  have a3 : w2.cell? ⟨w1.heap.size, 3, none⟩ = some (.int .i64 0) := blk_cell I.hd 3
  have a4 : w2.cell? ⟨w1.heap.size, 4, none⟩ = some (.int .i64 0) := blk_cell I.hd 4
  have a5 : w2.cell? ⟨w1.heap.size, 5, none⟩ = some (.int .i64 0) := blk_cell I.hd 5
  have a6 : w2.cell? ⟨w1.heap.size, 6, none⟩ = some (.int .i64 X) := blk_cell I.hd 6
  have a7 : w2.cell? ⟨w1.heap.size, 7, none⟩ = some (.int .i64 Y) := blk_cell I.hd 7
  have a8 : w2.cell? ⟨w1.heap.size, 8, none⟩ = some (.int .i64 x16) := blk_cell I.hd 8
  have a9 : w2.cell? ⟨w1.heap.size, 9, none⟩ = some (.int .i64 al) := blk_cell I.hd 9
  have a10 : w2.cell? ⟨w1.heap.size, 10, none⟩ = some (.bool lf) := blk_cell I.hd 10
  have a11 : w2.cell? ⟨w1.heap.size, 11, none⟩ = some (.bool tp) := blk_cell I.hd 11
  have hd0 := blk_free I.hd 3
  have hd1 := blk_free I.hd 4
  have hd2 := blk_free I.hd 5
  have hlh := blk_lt I.hd
  have ne2 : W.heap.size ≠ w1.heap.size := by have := I.eb; omega
  have hle : W.heap.size ≤ w1.heap.size := by have := I.eb; omega
  have HI := Lib.hid I
  clear I hc1 hHeld HR HG HZ
  go_wp2_with fail
  refine wp_region_held_drew (S := fun _ => True) (by kernel_rfl) ?_ (fun hHeld => ?_)
  · first | exact trivial | go_keep
  refine wpAnyH_take (i := 0) (oi := { dst := some 35, op := Go.Op.move (Go.Operand.tmp 0), type := 9, pos := "tgahead.go:172", after := #[], guard := none }) (v := ?v0_67) rfl (by kernel_rfl) (by kernel_rfl) (by kernel_rfl) (fun _ _ _ h => h) (Or.inl ⟨by rfl, ?hy0_67⟩) (by assumption) ?rest0_67
  case hy0_67 =>
    intro w' hSw
    try dsimp only at hSw
    go_simp
    try with_reducible rfl
  try simp only [Act.put, List.setIfInBounds_toArray, List.set_cons_zero, List.set_cons_succ]
  refine wpAnyH_take (i := 2) (oi := { dst := some 37, op := Go.Op.move (Go.Operand.tmp 0), type := 9, pos := "tgahead.go:172", after := #[], guard := none }) (v := ?v2_68) rfl (by kernel_rfl) (by kernel_rfl) (by kernel_rfl) (fun _ _ _ h => h) (Or.inl ⟨by rfl, ?hy2_68⟩) (by assumption) ?rest2_68
  case hy2_68 =>
    intro w' hSw
    try dsimp only at hSw
    go_simp
    try with_reducible rfl
  try simp only [Act.put, List.setIfInBounds_toArray, List.set_cons_zero, List.set_cons_succ]
  refine wpAnyH_take (i := 4) (oi := { dst := some 39, op := Go.Op.move (Go.Operand.tmp 0), type := 9, pos := "tgahead.go:172", after := #[{ on := 10, ground := Go.Ground.gcOnly Go.Departure.lateStores }], guard := none }) (v := ?v4_69) rfl (by kernel_rfl) (by kernel_rfl) (by kernel_rfl) (fun _ _ _ h => h) (Or.inl ⟨by rfl, ?hy4_69⟩) (by assumption) ?rest4_69
  case hy4_69 =>
    intro w' hSw
    try dsimp only at hSw
    go_simp
    try with_reducible rfl
  try simp only [Act.put, List.setIfInBounds_toArray, List.set_cons_zero, List.set_cons_succ]
  refine wpAnyH_take (i := 5) (oi := { dst := some 40, op := Go.Op.index 9 (Go.Operand.tmp 39) (Go.Operand.const (Go.Value.int Go.IntKind.i64 7)), type := 5, pos := "tgahead.go:172", after := #[{ on := 4, ground := Go.Ground.data }, { on := 10, ground := Go.Ground.gcOnly Go.Departure.lateStores }], guard := none }) (v := ?v5_70) rfl (by kernel_rfl) (by kernel_rfl) (by kernel_rfl) (fun _ _ _ h => h) (Or.inl ⟨by rfl, ?hy5_70⟩) (by assumption) ?rest5_70
  case hy5_70 =>
    intro w' hSw
    try dsimp only at hSw
    go_simp
    try with_reducible rfl
  try simp only [Act.put, List.setIfInBounds_toArray, List.set_cons_zero, List.set_cons_succ]
  refine wpAnyH_take (i := 6) (oi := { dst := some 41, op := Go.Op.convert 5 3 (Go.Operand.tmp 40), type := 3, pos := "tgahead.go:172", after := #[{ on := 5, ground := Go.Ground.data }, { on := 10, ground := Go.Ground.gcOnly Go.Departure.lateStores }], guard := none }) (v := ?v6_71) rfl (by kernel_rfl) (by kernel_rfl) (by kernel_rfl) (fun _ _ _ h => h) (Or.inl ⟨by rfl, ?hy6_71⟩) (by assumption) ?rest6_71
  case hy6_71 =>
    intro w' hSw
    try dsimp only at hSw
    go_simp
    try with_reducible rfl
  try simp only [Act.put, List.setIfInBounds_toArray, List.set_cons_zero, List.set_cons_succ]
  refine wpAnyH_ready (rs := [1]) (by kernel_rfl) (by simp) ?_
  refine AllReadyH.cons (o := { dst := some 36, op := Go.Op.call { callee := Go.Callee.value (Go.Operand.func 58), args := #[Go.Operand.tmp 35, Go.Operand.const (Go.Value.int Go.IntKind.i64 3)], argTypes := #[9, 3] }, type := 3, pos := "tgahead.go:172", after := #[{ on := 0, ground := Go.Ground.data }], guard := none }) rfl (fun K hK => ?_) AllReadyH.nil
  go_simp
  refine (HKA.out _).mono ?_
  rintro e w' ⟨rfl, n3, rfl⟩
  try go_wp2_with fail
  refine hK.out _ _ ?_ (fun hHeld2 => ?_)
  · first | exact trivial | go_keep
  clear hHeld
  have hHeld := hHeld2
  clear hK K hHeld2
  try simp only [Act.put, List.setIfInBounds_toArray, List.set_cons_zero, List.set_cons_succ]
  refine wpAnyH_take (i := 7) (oi := { dst := some 42, op := Go.Op.fieldAddr 47 (Go.Operand.tmp 4) 3, type := 0, pos := "tgahead.go:172", after := #[{ on := 0, ground := Go.Ground.phase }, { on := 1, ground := Go.Ground.phase }, { on := 2, ground := Go.Ground.textOnly Go.Departure.lateStores }, { on := 3, ground := Go.Ground.textOnly Go.Departure.lateStoresUnsure }, { on := 4, ground := Go.Ground.textOnly Go.Departure.lateStores }, { on := 5, ground := Go.Ground.textOnly Go.Departure.lateStores }, { on := 6, ground := Go.Ground.textOnly Go.Departure.lateStores }], guard := none }) (v := ?v7_72) rfl (by kernel_rfl) (by kernel_rfl) (by kernel_rfl) (fun _ _ _ h => h) (Or.inl ⟨by rfl, ?hy7_72⟩) (by assumption) ?rest7_72
  case hy7_72 =>
    intro w' hSw
    try dsimp only at hSw
    go_simp
    try with_reducible rfl
  try simp only [Act.put, List.setIfInBounds_toArray, List.set_cons_zero, List.set_cons_succ]
  refine wpAnyH_ready (rs := [3]) (by kernel_rfl) (by simp) ?_
  refine AllReadyH.cons (o := { dst := some 38, op := Go.Op.call { callee := Go.Callee.value (Go.Operand.func 58), args := #[Go.Operand.tmp 37, Go.Operand.const (Go.Value.int Go.IntKind.i64 5)], argTypes := #[9, 3] }, type := 3, pos := "tgahead.go:172", after := #[{ on := 2, ground := Go.Ground.data }, { on := 1, ground := Go.Ground.chain }], guard := none }) rfl (fun K hK => ?_) AllReadyH.nil
  go_simp
  refine (HKB.out _).mono ?_
  rintro e w' ⟨rfl, n4, rfl⟩
  try go_wp2_with fail
  refine hK.out _ _ ?_ (fun hHeld2 => ?_)
  · first | exact trivial | go_keep
  clear hHeld
  have hHeld := hHeld2
  clear hK K hHeld2
  try simp only [Act.put, List.setIfInBounds_toArray, List.set_cons_zero, List.set_cons_succ]
  refine wpAnyH_ready (rs := [8]) (by kernel_rfl) (by simp) ?_
  refine AllReadyH.cons (o := { dst := none, op := Go.Op.store 3 (Go.Operand.tmp 42) (Go.Operand.tmp 36), type := 0, pos := "tgahead.go:172", after := #[{ on := 7, ground := Go.Ground.data }, { on := 1, ground := Go.Ground.data }, { on := 3, ground := Go.Ground.chain }, { on := 0, ground := Go.Ground.phase }, { on := 1, ground := Go.Ground.phase }, { on := 2, ground := Go.Ground.textOnly Go.Departure.lateStores }, { on := 3, ground := Go.Ground.textOnly Go.Departure.lateStoresUnsure }, { on := 4, ground := Go.Ground.textOnly Go.Departure.lateStores }, { on := 5, ground := Go.Ground.textOnly Go.Departure.lateStores }, { on := 6, ground := Go.Ground.textOnly Go.Departure.lateStores }], guard := none }) rfl (fun K hK => ?_) AllReadyH.nil
  go_simp
  refine hK.out _ _ ?_ (fun hHeld2 => ?_)
  · first | exact trivial | go_keep
  clear hHeld
  have hHeld := hHeld2
  clear hK K hHeld2
  try simp only [Act.put, List.setIfInBounds_toArray, List.set_cons_zero, List.set_cons_succ]
  refine wpAnyH_take (i := 9) (oi := { dst := some 43, op := Go.Op.fieldAddr 47 (Go.Operand.tmp 4) 4, type := 0, pos := "tgahead.go:172", after := #[{ on := 0, ground := Go.Ground.phase }, { on := 1, ground := Go.Ground.phase }, { on := 2, ground := Go.Ground.phase }, { on := 3, ground := Go.Ground.phase }, { on := 4, ground := Go.Ground.textOnly Go.Departure.lateStores }, { on := 5, ground := Go.Ground.textOnly Go.Departure.lateStores }, { on := 6, ground := Go.Ground.textOnly Go.Departure.lateStores }, { on := 7, ground := Go.Ground.phase }, { on := 8, ground := Go.Ground.phase }], guard := none }) (v := ?v9_73) rfl (by kernel_rfl) (by kernel_rfl) (by kernel_rfl) (fun _ _ _ h => h) (Or.inl ⟨by rfl, ?hy9_73⟩) (by assumption) ?rest9_73
  case hy9_73 =>
    intro w' hSw
    try dsimp only at hSw
    go_simp
    try with_reducible rfl
  try simp only [Act.put, List.setIfInBounds_toArray, List.set_cons_zero, List.set_cons_succ]
  refine wpAnyH_ready (rs := [10]) (by kernel_rfl) (by simp) ?_
  refine AllReadyH.cons (o := { dst := none, op := Go.Op.store 3 (Go.Operand.tmp 43) (Go.Operand.tmp 38), type := 0, pos := "tgahead.go:172", after := #[{ on := 9, ground := Go.Ground.data }, { on := 3, ground := Go.Ground.data }, { on := 8, ground := Go.Ground.chain }, { on := 0, ground := Go.Ground.phase }, { on := 1, ground := Go.Ground.phase }, { on := 2, ground := Go.Ground.phase }, { on := 3, ground := Go.Ground.phase }, { on := 4, ground := Go.Ground.textOnly Go.Departure.lateStores }, { on := 5, ground := Go.Ground.textOnly Go.Departure.lateStores }, { on := 6, ground := Go.Ground.textOnly Go.Departure.lateStores }, { on := 7, ground := Go.Ground.phase }, { on := 8, ground := Go.Ground.phase }], guard := none }) rfl (fun K hK => ?_) AllReadyH.nil
  go_simp
  refine hK.out _ _ ?_ (fun hHeld2 => ?_)
  · first | exact trivial | go_keep
  clear hHeld
  have hHeld := hHeld2
  clear hK K hHeld2
  try simp only [Act.put, List.setIfInBounds_toArray, List.set_cons_zero, List.set_cons_succ]
  refine wpAnyH_take (i := 11) (oi := { dst := some 44, op := Go.Op.fieldAddr 47 (Go.Operand.tmp 4) 5, type := 0, pos := "tgahead.go:172", after := #[{ on := 0, ground := Go.Ground.phase }, { on := 1, ground := Go.Ground.phase }, { on := 2, ground := Go.Ground.phase }, { on := 3, ground := Go.Ground.phase }, { on := 4, ground := Go.Ground.phase }, { on := 5, ground := Go.Ground.phase }, { on := 6, ground := Go.Ground.phase }, { on := 7, ground := Go.Ground.phase }, { on := 8, ground := Go.Ground.phase }, { on := 9, ground := Go.Ground.phase }, { on := 10, ground := Go.Ground.phase }], guard := none }) (v := ?v11_74) rfl (by kernel_rfl) (by kernel_rfl) (by kernel_rfl) (fun _ _ _ h => h) (Or.inl ⟨by rfl, ?hy11_74⟩) (by assumption) ?rest11_74
  case hy11_74 =>
    intro w' hSw
    try dsimp only at hSw
    go_simp
    try with_reducible rfl
  try simp only [Act.put, List.setIfInBounds_toArray, List.set_cons_zero, List.set_cons_succ]
  refine wpAnyH_ready (rs := [12]) (by kernel_rfl) (by simp) ?_
  refine AllReadyH.cons (o := { dst := none, op := Go.Op.store 3 (Go.Operand.tmp 44) (Go.Operand.tmp 41), type := 0, pos := "tgahead.go:172", after := #[{ on := 11, ground := Go.Ground.data }, { on := 6, ground := Go.Ground.data }, { on := 10, ground := Go.Ground.chain }, { on := 0, ground := Go.Ground.phase }, { on := 1, ground := Go.Ground.phase }, { on := 2, ground := Go.Ground.phase }, { on := 3, ground := Go.Ground.phase }, { on := 4, ground := Go.Ground.phase }, { on := 5, ground := Go.Ground.phase }, { on := 6, ground := Go.Ground.phase }, { on := 7, ground := Go.Ground.phase }, { on := 8, ground := Go.Ground.phase }, { on := 9, ground := Go.Ground.phase }, { on := 10, ground := Go.Ground.phase }], guard := none }) rfl (fun K hK => ?_) AllReadyH.nil
  go_simp
  refine hK.out _ _ ?_ (fun hHeld2 => ?_)
  · first | exact trivial | go_keep
  clear hHeld
  have hHeld := hHeld2
  clear hK K hHeld2
  try simp only [Act.put, List.setIfInBounds_toArray, List.set_cons_zero, List.set_cons_succ]
  refine wpAnyH_done (by kernel_rfl) ?_ _
  refine abs_w (R := fun w => FR W w w1.heap.size (hV x0 true x2 A B x7 X Y x16 al lf tp)) ?_ (fun w3 I => ?_)
  · refine ⟨?_, ?_, HI.out.eb, ?_⟩
    · exact dn_blk (blk_other (blk_other (blk_other HI.out.res ne2) ne2) ne2)
    · exact dn_blk (blk_set (blk_set (blk_set HI.out.hd 3 (.int .i64 A)) 4 (.int .i64 B)) 5 (.int .i64 x7))
    · exact gb_trans (gb_own (gb_own (gb_own HI.out.gb hle (gb_set _ _ _ _)) hle (gb_set _ _ _ _)) hle (gb_set _ _ _ _)) (gb_drewN _ _ _)
  clear a0 a1 a2 a3 a4 a5 a6 a7 a8 a9 a10 a11 hd0 hd1 hd2 hlh ne2 hle
  have a0 : w3.cell? ⟨w1.heap.size, 0, none⟩ = some (.int .i64 x0) := blk_cell I.hd 0
  have a1 : w3.cell? ⟨w1.heap.size, 1, none⟩ = some (.bool true) := blk_cell I.hd 1
  have a2 : w3.cell? ⟨w1.heap.size, 2, none⟩ = some (.int .i64 x2) := blk_cell I.hd 2
  have a3 : w3.cell? ⟨w1.heap.size, 3, none⟩ = some (.int .i64 A) := blk_cell I.hd 3
  have a4 : w3.cell? ⟨w1.heap.size, 4, none⟩ = some (.int .i64 B) := blk_cell I.hd 4
  have a5 : w3.cell? ⟨w1.heap.size, 5, none⟩ = some (.int .i64 x7) := blk_cell I.hd 5
  have a6 : w3.cell? ⟨w1.heap.size, 6, none⟩ = some (.int .i64 X) := blk_cell I.hd 6
  have a7 : w3.cell? ⟨w1.heap.size, 7, none⟩ = some (.int .i64 Y) := blk_cell I.hd 7
  have a8 : w3.cell? ⟨w1.heap.size, 8, none⟩ = some (.int .i64 x16) := blk_cell I.hd 8
  have a9 : w3.cell? ⟨w1.heap.size, 9, none⟩ = some (.int .i64 al) := blk_cell I.hd 9
  have a10 : w3.cell? ⟨w1.heap.size, 10, none⟩ = some (.bool lf) := blk_cell I.hd 10
  have a11 : w3.cell? ⟨w1.heap.size, 11, none⟩ = some (.bool tp) := blk_cell I.hd 11
  have r0 : w3.cell? ⟨W.heap.size, 0, none⟩ = some (.int .i64 0) := blk_cell I.res 0
  have rf0 := blk_free I.res 0
  have r1 : w3.cell? ⟨W.heap.size, 1, none⟩ = some (.bool false) := blk_cell I.res 1
  have rf1 := blk_free I.res 1
  have r2 : w3.cell? ⟨W.heap.size, 2, none⟩ = some (.int .i64 0) := blk_cell I.res 2
  have rf2 := blk_free I.res 2
  have r3 : w3.cell? ⟨W.heap.size, 3, none⟩ = some (.int .i64 0) := blk_cell I.res 3
  have rf3 := blk_free I.res 3
  have r4 : w3.cell? ⟨W.heap.size, 4, none⟩ = some (.int .i64 0) := blk_cell I.res 4
  have rf4 := blk_free I.res 4
  have r5 : w3.cell? ⟨W.heap.size, 5, none⟩ = some (.int .i64 0) := blk_cell I.res 5
  have rf5 := blk_free I.res 5
  have r6 : w3.cell? ⟨W.heap.size, 6, none⟩ = some (.int .i64 0) := blk_cell I.res 6
  have rf6 := blk_free I.res 6
  have r7 : w3.cell? ⟨W.heap.size, 7, none⟩ = some (.int .i64 0) := blk_cell I.res 7
  have rf7 := blk_free I.res 7
  have r8 : w3.cell? ⟨W.heap.size, 8, none⟩ = some (.int .i64 0) := blk_cell I.res 8
  have rf8 := blk_free I.res 8
  have r9 : w3.cell? ⟨W.heap.size, 9, none⟩ = some (.int .i64 0) := blk_cell I.res 9
  have rf9 := blk_free I.res 9
  have r10 : w3.cell? ⟨W.heap.size, 10, none⟩ = some (.bool false) := blk_cell I.res 10
  have rf10 := blk_free I.res 10
  have r11 : w3.cell? ⟨W.heap.size, 11, none⟩ = some (.bool false) := blk_cell I.res 11
  have rf11 := blk_free I.res 11
  have hlr := blk_lt I.res
  have hlh := blk_lt I.hd
  have ne1 : w1.heap.size ≠ W.heap.size := by have := I.eb; omega
  have ne2 : W.heap.size ≠ w1.heap.size := by have := I.eb; omega
  have GI := Lib.hid I.gb
  clear I hc2 hHeld HI
  go_wp2
  refine bodyPost_ret (v := .agg #[.int .i64 x0, .bool true, .int .i64 x2, .int .i64 A, .int .i64 B, .int .i64 x7, .int .i64 X, .int .i64 Y, .int .i64 x16, .int .i64 al, .bool lf, .bool tp]) (by simp only [results, Tryd.results39]; go_simp) rfl ⟨rfl, ?_⟩
  exact gb_own (gb_own (gb_own (gb_own (gb_own (gb_own (gb_own (gb_own (gb_own (gb_own (gb_own (gb_own (GI.out) (Nat.le_refl _) (gb_set _ _ _ _)) (Nat.le_refl _) (gb_set _ _ _ _)) (Nat.le_refl _) (gb_set _ _ _ _)) (Nat.le_refl _) (gb_set _ _ _ _)) (Nat.le_refl _) (gb_set _ _ _ _)) (Nat.le_refl _) (gb_set _ _ _ _)) (Nat.le_refl _) (gb_set _ _ _ _)) (Nat.le_refl _) (gb_set _ _ _ _)) (Nat.le_refl _) (gb_set _ _ _ _)) (Nat.le_refl _) (gb_set _ _ _ _)) (Nat.le_refl _) (gb_set _ _ _ _)) (Nat.le_refl _) (gb_set _ _ _ _)

theorem word_is (s : ByteArray) (k : Nat) (hk : k + 1 < s.size) (hm : s.size ≤ 9223372036854775807) (u : World) :
    Calls Tryd.prog 58 #[.string s, .int .i64 (k : Int)] u fun e w' => e = .returned (.int .i64 (wd s k : Nat)) ∧ ∃ n, w' = u.drewN n := by
  have h := word_calls s k _ _ u hk hm rfl rfl
  rw [show (wd s k : Int) = (bn s k : Int) + 256 * (bn s (k + 1) : Int) from by unfold wd; omega]
  exact h

/-- A head's fields. -/
theorem fields_calls (s : ByteArray) (W : World) (h18 : 18 ≤ s.size) (hm : s.size ≤ 9223372036854775807) :
    Calls Tryd.prog 39 #[.string s] W fun e w' => e = .returned (.agg (hA s)) ∧ W.grownBy w' none := by
  have l0 := bn_lt s 0
  have l2 := bn_lt s 2
  have l7 := bn_lt s 7
  have l16 := bn_lt s 16
  have l17 := bn_lt s 17
  have e15 : bits .and .i64 (bn s 17 : Int) 15 = (alp s : Nat) := by
    have := and_lit (bn s 17) l17 15 (by omega)
    rw [and15 _ l17] at this
    exact this
  have e16 := and_lit (bn s 17) l17 16 (by omega)
  have e32 := and_lit (bn s 17) l17 32 (by omega)
  have z16 : (((bn s 17 &&& 16 : Nat) : Int) != 0) = lft s := and16 _ l17
  have z32 : (((bn s 17 &&& 32 : Nat) : Int) != 0) = tpp s := and32 _ l17
  by_cases h1 : bn s 1 = 1
  · have hmp : mpB s = true := by unfold mpB; simp [h1]
    have hf : fst s = wd s 3 := by unfold fst; rw [if_pos hmp]
    have hc : cnt s = wd s 5 := by unfold cnt; rw [if_pos hmp]
    have he : ent s = bn s 7 := by unfold ent; rw [if_pos hmp]
    unfold hA
    rw [hmp, hf, hc, he]
    exact fields_yes s (bn s 0) (bn s 2) (bn s 16) (bn s 17) (bn s 1) _ _ _ _ _ _ _ W h18 hm l0 l2 l16 l17 (bn_cell s 0 (by omega) rfl) (bn_cell s 1 (by omega) rfl) (bn_cell s 2 (by omega) rfl) (bn_cell s 16 (by omega) rfl) (bn_cell s 17 (by omega) rfl)
      (by rw [h1]; rfl) e15 e16 e32 z16 z32 (fun u => word_is s 12 (by omega) hm u) (fun u => word_is s 14 (by omega) hm u) (bn s 7) _ _ l7 (bn_cell s 7 (by omega) rfl) (fun u => word_is s 3 (by omega) hm u) (fun u => word_is s 5 (by omega) hm u)
  · have hmp : mpB s = false := by unfold mpB; simp [h1]
    have hf : fst s = 0 := by unfold fst; rw [hmp]; rfl
    have hc : cnt s = 0 := by unfold cnt; rw [hmp]; rfl
    have he : ent s = 0 := by unfold ent; rw [hmp]; rfl
    unfold hA
    rw [hmp, hf, hc, he]
    exact fields_no s (bn s 0) (bn s 2) (bn s 16) (bn s 17) (bn s 1) _ _ _ _ _ _ _ W h18 hm l0 l2 l16 l17 (bn_cell s 0 (by omega) rfl) (bn_cell s 1 (by omega) rfl) (bn_cell s 2 (by omega) rfl) (bn_cell s 16 (by omega) rfl) (bn_cell s 17 (by omega) rfl)
      (by rw [beq_eq_false_iff_ne]; omega) e15 e16 e32 z16 z32 (fun u => word_is s 12 (by omega) hm u) (fun u => word_is s 14 (by omega) hm u)

end Go.Proofs.YtibbebglbcjnmaaDoor.Tg
