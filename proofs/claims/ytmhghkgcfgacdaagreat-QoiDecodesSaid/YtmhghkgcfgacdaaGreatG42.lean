/- Texts of one kind, one behind the other: Qe2, Qe3. -/
import Derived.BigRegion
import Derived.Deep.RegionHeld3
import Derived.Deep.RegionWith
import Derived.Test.YtmhghkgcfgacdaaGreatG18
import Derived.Test.YtmhghkgcfgacdaaGreatG26
import Derived.Test.YtmhghkgcfgacdaaGreatG40
import Derived.Test.YtmhghkgcfgacdaaGreatG41
/- Layer 26: the document's Step (written by wip/gen/qe1.py). -/
namespace Go.Proofs.YtmhghkgcfgacdaaGreat.Qo
open Go.ChangeShapes Go.WideShapes Go.ChangeAt Go.RowKit
open Go.Proofs.YtmhghkgcfgacdaaGreat.Le Go.Proofs.YtmhghkgcfgacdaaGreat.Tk Go.Proofs.YtmhghkgcfgacdaaGreat.Sr Go.Proofs.YtmhghkgcfgacdaaGreat.Sh Go.Proofs.YtmhghkgcfgacdaaGreat.Qw
open Go.Proofs.YtmhghkgcfgacdaaGreat.Ra hiding bt
set_option linter.unusedVariables false

set_option maxRecDepth 100000 in
set_option maxHeartbeats 4000000 in
theorem rstep_D (s : ByteArray) (p b g : Nat) (last : C4) (seen : Nat → C4) (W : World) (hp : p < s.size) (hsz : s.size ≤ 1000000) (ok : last.ok) (oks : ∀ k, (seen k).ok) (S : SnD g seen W) (hb : bt s p = b) (hc : 64 ≤ b ∧ b < 128) (hn : p + 1 ≤ s.size) :
    Calls Tryz.prog 31 #[.string s, .int .i64 p, cV last, .slice (some ⟨g, 0, none⟩) 64 64] W fun e w' => e = .returned (.tuple #[cV (colQ s p last seen), .int .i64 (tms (bt s p) : Nat), .int .i64 (nb (bt s p) : Nat), .bool true]) ∧ W.grownBy w' none := by
  have hb256 := bt_lt s p
  rw [hb] at hb256
  have y0 := bt_cell s p hp hb
  obtain ⟨r, gg, bl, a⟩ := last
  obtain ⟨k1, k2, k3, k4⟩ := ok
  have i1 : decide ((s.size : Int) < (p : Int) + 1) = false := decide_eq_false (by omega)
  have i1' : ¬ (s.size : Int) < (p : Int) + 1 := by omega
  have e254 : ((b : Int) == 254) = false := by rw [beq_eq_false_iff_ne]; omega
  have n254 : ¬ (b : Int) = 254 := by omega
  have e255 : ((b : Int) == 255) = false := by rw [beq_eq_false_iff_ne]; omega
  have n255 : ¬ (b : Int) = 255 := by omega
  have g128 : ¬ (128 : Int) ≤ (b : Int) := by omega
  have g128b : decide ((128 : Int) ≤ (b : Int)) = false := decide_eq_false (by omega)
  have l64 : ¬ (b : Int) < 64 := by omega
  have l64b : decide ((b : Int) < 64) = false := decide_eq_false (by omega)
  have l128 : (b : Int) < 128 := by omega
  have l128b : decide ((b : Int) < 128) = true := decide_eq_true (by omega)
  have hcol : colQ s p ⟨r, gg, bl, a⟩ seen = mv ⟨r, gg, bl, a⟩ (((b - 64) / 16 : Nat) - 2) (((b - 64) / 4 % 4 : Nat) - 2) (((b - 64) % 4 : Nat) - 2) := by unfold colQ; rw [hb]; rw [if_neg (by omega), if_neg (by omega), if_neg (by omega), if_pos (by omega)]
  have htn : tms (bt s p) = 1 ∧ nb (bt s p) = 1 := by rw [hb]; unfold tms nb; constructor <;> (repeat' split) <;> omega
  rw [hcol, htn.1, htn.2]
  obtain ⟨k, hk⟩ : ∃ k, b - 64 = k := ⟨_, rfl⟩
  rw [hk]
  have k64 : k < 64 := by omega
  have v1 : IntKind.i64.wrap ((b : Int) - 64) = (k : Int) := by rw [IntWalk.i64_in _ (by omega)]; omega
  have v2 : (b : Int) - 64 = (k : Int) := by omega
  obtain ⟨c0, hc0⟩ : ∃ c, k / 16 = c := ⟨_, rfl⟩
  obtain ⟨c1, hc1⟩ : ∃ c, k / 4 % 4 = c := ⟨_, rfl⟩
  obtain ⟨c2, hc2⟩ : ∃ c, k % 4 = c := ⟨_, rfl⟩
  obtain ⟨c3, hc3⟩ : ∃ c, k / 4 = c := ⟨_, rfl⟩
  rw [hc0, hc1, hc2]
  have t0 : (k : Int) / 16 = (c0 : Int) := by omega
  have t1 : (k : Int) / 4 = (c3 : Int) := by omega
  have t2 : (k : Int) % 4 = (c2 : Int) := by omega
  have t3 : (c3 : Int) % 4 = (c1 : Int) := by omega
  have t0' : (k : Int).tdiv 16 = (c0 : Int) := by rw [Int.tdiv_eq_ediv_of_nonneg (by omega)]; exact t0
  have t1' : (k : Int).tdiv 4 = (c3 : Int) := by rw [Int.tdiv_eq_ediv_of_nonneg (by omega)]; exact t1
  have t2' : (k : Int).tmod 4 = (c2 : Int) := by rw [Int.tmod_eq_emod_of_nonneg (by omega)]; exact t2
  have t3' : (c3 : Int).tmod 4 = (c1 : Int) := by rw [Int.tmod_eq_emod_of_nonneg (by omega)]; exact t3
  obtain ⟨d0, hd0⟩ : ∃ d : Int, (c0 : Int) - 2 = d := ⟨_, rfl⟩
  obtain ⟨d1, hd1⟩ : ∃ d : Int, (c1 : Int) - 2 = d := ⟨_, rfl⟩
  obtain ⟨d2, hd2⟩ : ∃ d : Int, (c2 : Int) - 2 = d := ⟨_, rfl⟩
  rw [hd0, hd1, hd2]
  have x0 : IntKind.i64.wrap ((c0 : Int) - 2) = d0 := by rw [IntWalk.i64_in _ (by omega)]; omega
  have x1 : IntKind.i64.wrap ((c1 : Int) - 2) = d1 := by rw [IntWalk.i64_in _ (by omega)]; omega
  have x2 : IntKind.i64.wrap ((c2 : Int) - 2) = d2 := by rw [IntWalk.i64_in _ (by omega)]; omega
  have wd0 : IntKind.i64.wrap d0 = d0 := IntWalk.i64_in _ (by omega)
  have wd1 : IntKind.i64.wrap d1 = d1 := IntWalk.i64_in _ (by omega)
  have wd2 : IntKind.i64.wrap d2 = d2 := IntWalk.i64_in _ (by omega)
  have w0 : IntKind.i64.wrap (c0 : Int) = (c0 : Int) := IntWalk.i64_in _ (by omega)
  have w1 : IntKind.i64.wrap (c1 : Int) = (c1 : Int) := IntWalk.i64_in _ (by omega)
  have w2 : IntKind.i64.wrap (c2 : Int) = (c2 : Int) := IntWalk.i64_in _ (by omega)
  have w3 : IntKind.i64.wrap (c3 : Int) = (c3 : Int) := IntWalk.i64_in _ (by omega)
  obtain ⟨n0, h0⟩ : ∃ n, adm r d0 = n := ⟨_, rfl⟩
  obtain ⟨n1, h1⟩ : ∃ n, adm gg d1 = n := ⟨_, rfl⟩
  obtain ⟨n2, h2⟩ : ∃ n, adm bl d2 = n := ⟨_, rfl⟩
  have KA0 := fun u => radd_calls r d0 k1 (by omega) u
  have KA1 := fun u => radd_calls gg d1 k2 (by omega) u
  have KA2 := fun u => radd_calls bl d2 k3 (by omega) u
  rw [h0] at KA0
  rw [h1] at KA1
  rw [h2] at KA2
  have KA0 := Lib.hid KA0
  have KA1 := Lib.hid KA1
  have KA2 := Lib.hid KA2
  unfold cV mv cQ
  simp only
  rw [h0, h1, h2]
  clear oks S hb hcol htn hk hc0 hc1 hc2 hc3 h0 h1 h2 t0 t1 t2 t3
  go_enter Tryz.func31, Tryz.ntmps31
  go_upto_region 21 with fail
  have G3 : W.grownBy (((W.alloc (.cells #[.int .u8 r, .int .u8 gg, .int .u8 bl, .int .u8 a] 67)).alloc (.cells #[.int .u8 0, .int .u8 0, .int .u8 0, .int .u8 0] 67)).alloc (.cells #[.int .u8 r, .int .u8 gg, .int .u8 bl, .int .u8 a] 67)) none := gb_trans (gb_trans (World.grownBy_alloc W _ none) (World.grownBy_alloc _ _ none)) (World.grownBy_alloc _ _ none)
  have B2 : (((W.alloc (.cells #[.int .u8 r, .int .u8 gg, .int .u8 bl, .int .u8 a] 67)).alloc (.cells #[.int .u8 0, .int .u8 0, .int .u8 0, .int .u8 0] 67)).alloc (.cells #[.int .u8 r, .int .u8 gg, .int .u8 bl, .int .u8 a] 67)).heap[W.heap.size + 1 + 1]? = some (.cells #[.int .u8 r, .int .u8 gg, .int .u8 bl, .int .u8 a] 67 (0, 0)) := by
    have h := blk_at (w := (W.alloc (.cells #[.int .u8 r, .int .u8 gg, .int .u8 bl, .int .u8 a] 67)).alloc (.cells #[.int .u8 0, .int .u8 0, .int .u8 0, .int .u8 0] 67)) (o := .cells #[.int .u8 r, .int .u8 gg, .int .u8 bl, .int .u8 a] 67)
    rw [size_alloc, size_alloc] at h
    exact h
  have B1 : (((W.alloc (.cells #[.int .u8 r, .int .u8 gg, .int .u8 bl, .int .u8 a] 67)).alloc (.cells #[.int .u8 0, .int .u8 0, .int .u8 0, .int .u8 0] 67)).alloc (.cells #[.int .u8 r, .int .u8 gg, .int .u8 bl, .int .u8 a] 67)).heap[W.heap.size + 1]? = some (.cells #[.int .u8 0, .int .u8 0, .int .u8 0, .int .u8 0] 67 (0, 0)) := by
    have h := blk_at (w := W.alloc (.cells #[.int .u8 r, .int .u8 gg, .int .u8 bl, .int .u8 a] 67)) (o := .cells #[.int .u8 0, .int .u8 0, .int .u8 0, .int .u8 0] 67)
    rw [size_alloc] at h
    exact blk_al h _
  have m1 : ¬ W.heap.size + 1 = W.heap.size + 1 + 1 := by omega
  have m2 : ¬ W.heap.size + 1 + 1 = W.heap.size + 1 := by omega
  obtain ⟨j2, hj2⟩ : ∃ j, W.heap.size + 1 + 1 = j := ⟨_, rfl⟩
  obtain ⟨j1, hj1⟩ : ∃ j, W.heap.size + 1 = j := ⟨_, rfl⟩
  generalize (((W.alloc (.cells #[.int .u8 r, .int .u8 gg, .int .u8 bl, .int .u8 a] 67)).alloc (.cells #[.int .u8 0, .int .u8 0, .int .u8 0, .int .u8 0] 67)).alloc (.cells #[.int .u8 r, .int .u8 gg, .int .u8 bl, .int .u8 a] 67)) = w3 at G3 B2 B1 ⊢
  rw [hj2, hj1] at m1 m2
  rw [hj2] at B2
  rw [hj1] at B1
  rw [hj2, hj1]
  have HJ := Lib.hid (show W.heap.size ≤ j1 ∧ W.heap.size ≤ j2 by omega)
  clear hj1 hj2
  have HG3 := Lib.hid G3
  have hl2 := blk_lt B2
  have hl1 := blk_lt B1
  have x20 := blk_cell B2 0
  have x21 := blk_cell B2 1
  have x22 := blk_cell B2 2
  have x23 := blk_cell B2 3
  have x10 := blk_cell B1 0
  have x11 := blk_cell B1 1
  have x12 := blk_cell B1 2
  have x13 := blk_cell B1 3
  simp only [List.getElem?_toArray, List.getElem?_cons_succ, List.getElem?_cons_zero] at x20 x21 x22 x23 x10 x11 x12 x13
  have z20 := blk_free B2 0
  have z21 := blk_free B2 1
  have z22 := blk_free B2 2
  have z23 := blk_free B2 3
  have z10 := blk_free B1 0
  have z11 := blk_free B1 1
  have z12 := blk_free B1 2
  have z13 := blk_free B1 3
  have HB1 := Lib.hid B1
  have HB2 := Lib.hid B2
  clear B1 B2 G3
  refine Mk.region_upto (S := (fun w' => w'.cell? ⟨j2, 0, none⟩ = some (.int .u8 r) ∧ w'.cell? ⟨j2, 1, none⟩ = some (.int .u8 gg) ∧ w'.cell? ⟨j2, 2, none⟩ = some (.int .u8 bl))) 20 (by kernel_rfl) ?_ (fun hHeld => ?_)
  · first | exact trivial | go_keep
  refine Mk.Upto.takeP (i := 0) (oi := { dst := some 75, op := Go.Op.fieldAddr 67 (Go.Operand.tmp 14) 0, type := 0, pos := "ref.go:43", after := #[], guard := none }) (v := ?v0) rfl (by kernel_rfl) (by kernel_rfl) (by kernel_rfl) (by kernel_rfl) (fun _ _ _ h => h) (Or.inl ⟨by rfl, ?hy0⟩) (by assumption) ?rest0
  case hy0 =>
    intro w' hSw
    try dsimp only at hSw
    go_simp
    try with_reducible rfl
  try simp only [Act.put, List.setIfInBounds_toArray, List.set_cons_zero, List.set_cons_succ]
  refine Mk.Upto.take (i := 1) (oi := { dst := some 76, op := Go.Op.load 5 (Go.Operand.tmp 75), type := 5, pos := "ref.go:43", after := #[{ on := 0, ground := Go.Ground.data }], guard := none }) (v := ?v1) rfl (by kernel_rfl) (by kernel_rfl) (by kernel_rfl) (by kernel_rfl) (fun _ _ _ h => h) (Or.inl ⟨by rfl, ?hy1⟩) (by assumption) ?rest1
  case hy1 =>
    intro w' hSw
    try dsimp only at hSw
    go_simp
    try with_reducible rfl
  try simp only [Act.put, List.setIfInBounds_toArray, List.set_cons_zero, List.set_cons_succ]
  refine Mk.Upto.takeP (i := 2) (oi := { dst := some 77, op := Go.Op.move (Go.Operand.tmp 16), type := 3, pos := "ref.go:43", after := #[], guard := none }) (v := ?v2) rfl (by kernel_rfl) (by kernel_rfl) (by kernel_rfl) (by kernel_rfl) (fun _ _ _ h => h) (Or.inl ⟨by rfl, ?hy2⟩) (by assumption) ?rest2
  case hy2 =>
    intro w' hSw
    try dsimp only at hSw
    go_simp
    try with_reducible rfl
  try simp only [Act.put, List.setIfInBounds_toArray, List.set_cons_zero, List.set_cons_succ]
  refine Mk.Upto.takeP (i := 3) (oi := { dst := some 78, op := Go.Op.binOp Go.BinOp.quo 3 (Go.Operand.tmp 77) (Go.Operand.const (Go.Value.int Go.IntKind.i64 16)) 3, type := 3, pos := "ref.go:43", after := #[{ on := 2, ground := Go.Ground.data }], guard := none }) (v := ?v3) rfl (by kernel_rfl) (by kernel_rfl) (by kernel_rfl) (by kernel_rfl) (fun _ _ _ h => h) (Or.inl ⟨by rfl, ?hy3⟩) (by assumption) ?rest3
  case hy3 =>
    intro w' hSw
    try dsimp only at hSw
    go_simp
    try with_reducible rfl
  try simp only [Act.put, List.setIfInBounds_toArray, List.set_cons_zero, List.set_cons_succ]
  refine Mk.Upto.takeP (i := 4) (oi := { dst := some 79, op := Go.Op.binOp Go.BinOp.sub 3 (Go.Operand.tmp 78) (Go.Operand.const (Go.Value.int Go.IntKind.i64 2)) 3, type := 3, pos := "ref.go:43", after := #[{ on := 3, ground := Go.Ground.data }], guard := none }) (v := ?v4) rfl (by kernel_rfl) (by kernel_rfl) (by kernel_rfl) (by kernel_rfl) (fun _ _ _ h => h) (Or.inl ⟨by rfl, ?hy4⟩) (by assumption) ?rest4
  case hy4 =>
    intro w' hSw
    try dsimp only at hSw
    go_simp
    try with_reducible rfl
  try simp only [Act.put, List.setIfInBounds_toArray, List.set_cons_zero, List.set_cons_succ]
  refine Mk.Upto.takeP (i := 6) (oi := { dst := some 81, op := Go.Op.fieldAddr 67 (Go.Operand.tmp 14) 1, type := 0, pos := "ref.go:43", after := #[], guard := none }) (v := ?v6) rfl (by kernel_rfl) (by kernel_rfl) (by kernel_rfl) (by kernel_rfl) (fun _ _ _ h => h) (Or.inl ⟨by rfl, ?hy6⟩) (by assumption) ?rest6
  case hy6 =>
    intro w' hSw
    try dsimp only at hSw
    go_simp
    try with_reducible rfl
  try simp only [Act.put, List.setIfInBounds_toArray, List.set_cons_zero, List.set_cons_succ]
  refine Mk.Upto.take (i := 7) (oi := { dst := some 82, op := Go.Op.load 5 (Go.Operand.tmp 81), type := 5, pos := "ref.go:43", after := #[{ on := 6, ground := Go.Ground.data }], guard := none }) (v := ?v7) rfl (by kernel_rfl) (by kernel_rfl) (by kernel_rfl) (by kernel_rfl) (fun _ _ _ h => h) (Or.inl ⟨by rfl, ?hy7⟩) (by assumption) ?rest7
  case hy7 =>
    intro w' hSw
    try dsimp only at hSw
    go_simp
    try with_reducible rfl
  try simp only [Act.put, List.setIfInBounds_toArray, List.set_cons_zero, List.set_cons_succ]
  refine Mk.Upto.takeP (i := 8) (oi := { dst := some 83, op := Go.Op.move (Go.Operand.tmp 16), type := 3, pos := "ref.go:43", after := #[], guard := none }) (v := ?v8) rfl (by kernel_rfl) (by kernel_rfl) (by kernel_rfl) (by kernel_rfl) (fun _ _ _ h => h) (Or.inl ⟨by rfl, ?hy8⟩) (by assumption) ?rest8
  case hy8 =>
    intro w' hSw
    try dsimp only at hSw
    go_simp
    try with_reducible rfl
  try simp only [Act.put, List.setIfInBounds_toArray, List.set_cons_zero, List.set_cons_succ]
  refine Mk.Upto.takeP (i := 9) (oi := { dst := some 84, op := Go.Op.binOp Go.BinOp.quo 3 (Go.Operand.tmp 83) (Go.Operand.const (Go.Value.int Go.IntKind.i64 4)) 3, type := 3, pos := "ref.go:43", after := #[{ on := 8, ground := Go.Ground.data }], guard := none }) (v := ?v9) rfl (by kernel_rfl) (by kernel_rfl) (by kernel_rfl) (by kernel_rfl) (fun _ _ _ h => h) (Or.inl ⟨by rfl, ?hy9⟩) (by assumption) ?rest9
  case hy9 =>
    intro w' hSw
    try dsimp only at hSw
    go_simp
    try with_reducible rfl
  try simp only [Act.put, List.setIfInBounds_toArray, List.set_cons_zero, List.set_cons_succ]
  refine Mk.Upto.takeP (i := 10) (oi := { dst := some 85, op := Go.Op.binOp Go.BinOp.rem 3 (Go.Operand.tmp 84) (Go.Operand.const (Go.Value.int Go.IntKind.i64 4)) 3, type := 3, pos := "ref.go:43", after := #[{ on := 9, ground := Go.Ground.data }], guard := none }) (v := ?v10) rfl (by kernel_rfl) (by kernel_rfl) (by kernel_rfl) (by kernel_rfl) (fun _ _ _ h => h) (Or.inl ⟨by rfl, ?hy10⟩) (by assumption) ?rest10
  case hy10 =>
    intro w' hSw
    try dsimp only at hSw
    go_simp
    try with_reducible rfl
  try simp only [Act.put, List.setIfInBounds_toArray, List.set_cons_zero, List.set_cons_succ]
  refine Mk.Upto.takeP (i := 11) (oi := { dst := some 86, op := Go.Op.binOp Go.BinOp.sub 3 (Go.Operand.tmp 85) (Go.Operand.const (Go.Value.int Go.IntKind.i64 2)) 3, type := 3, pos := "ref.go:43", after := #[{ on := 10, ground := Go.Ground.data }], guard := none }) (v := ?v11) rfl (by kernel_rfl) (by kernel_rfl) (by kernel_rfl) (by kernel_rfl) (fun _ _ _ h => h) (Or.inl ⟨by rfl, ?hy11⟩) (by assumption) ?rest11
  case hy11 =>
    intro w' hSw
    try dsimp only at hSw
    go_simp
    try with_reducible rfl
  try simp only [Act.put, List.setIfInBounds_toArray, List.set_cons_zero, List.set_cons_succ]
  refine Mk.Upto.takeP (i := 13) (oi := { dst := some 88, op := Go.Op.fieldAddr 67 (Go.Operand.tmp 14) 2, type := 0, pos := "ref.go:43", after := #[], guard := none }) (v := ?v13) rfl (by kernel_rfl) (by kernel_rfl) (by kernel_rfl) (by kernel_rfl) (fun _ _ _ h => h) (Or.inl ⟨by rfl, ?hy13⟩) (by assumption) ?rest13
  case hy13 =>
    intro w' hSw
    try dsimp only at hSw
    go_simp
    try with_reducible rfl
  try simp only [Act.put, List.setIfInBounds_toArray, List.set_cons_zero, List.set_cons_succ]
  refine Mk.Upto.take (i := 14) (oi := { dst := some 89, op := Go.Op.load 5 (Go.Operand.tmp 88), type := 5, pos := "ref.go:43", after := #[{ on := 13, ground := Go.Ground.data }], guard := none }) (v := ?v14) rfl (by kernel_rfl) (by kernel_rfl) (by kernel_rfl) (by kernel_rfl) (fun _ _ _ h => h) (Or.inl ⟨by rfl, ?hy14⟩) (by assumption) ?rest14
  case hy14 =>
    intro w' hSw
    try dsimp only at hSw
    go_simp
    try with_reducible rfl
  try simp only [Act.put, List.setIfInBounds_toArray, List.set_cons_zero, List.set_cons_succ]
  refine Mk.Upto.takeP (i := 15) (oi := { dst := some 90, op := Go.Op.move (Go.Operand.tmp 16), type := 3, pos := "ref.go:43", after := #[], guard := none }) (v := ?v15) rfl (by kernel_rfl) (by kernel_rfl) (by kernel_rfl) (by kernel_rfl) (fun _ _ _ h => h) (Or.inl ⟨by rfl, ?hy15⟩) (by assumption) ?rest15
  case hy15 =>
    intro w' hSw
    try dsimp only at hSw
    go_simp
    try with_reducible rfl
  try simp only [Act.put, List.setIfInBounds_toArray, List.set_cons_zero, List.set_cons_succ]
  refine Mk.Upto.takeP (i := 16) (oi := { dst := some 91, op := Go.Op.binOp Go.BinOp.rem 3 (Go.Operand.tmp 90) (Go.Operand.const (Go.Value.int Go.IntKind.i64 4)) 3, type := 3, pos := "ref.go:43", after := #[{ on := 15, ground := Go.Ground.data }], guard := none }) (v := ?v16) rfl (by kernel_rfl) (by kernel_rfl) (by kernel_rfl) (by kernel_rfl) (fun _ _ _ h => h) (Or.inl ⟨by rfl, ?hy16⟩) (by assumption) ?rest16
  case hy16 =>
    intro w' hSw
    try dsimp only at hSw
    go_simp
    try with_reducible rfl
  try simp only [Act.put, List.setIfInBounds_toArray, List.set_cons_zero, List.set_cons_succ]
  refine Mk.Upto.takeP (i := 17) (oi := { dst := some 92, op := Go.Op.binOp Go.BinOp.sub 3 (Go.Operand.tmp 91) (Go.Operand.const (Go.Value.int Go.IntKind.i64 2)) 3, type := 3, pos := "ref.go:43", after := #[{ on := 16, ground := Go.Ground.data }], guard := none }) (v := ?v17) rfl (by kernel_rfl) (by kernel_rfl) (by kernel_rfl) (by kernel_rfl) (fun _ _ _ h => h) (Or.inl ⟨by rfl, ?hy17⟩) (by assumption) ?rest17
  case hy17 =>
    intro w' hSw
    try dsimp only at hSw
    go_simp
    try with_reducible rfl
  try simp only [Act.put, List.setIfInBounds_toArray, List.set_cons_zero, List.set_cons_succ]
  refine Mk.Upto.one (i := 5) (o := { dst := some 80, op := Go.Op.call { callee := Go.Callee.value (Go.Operand.func 52), args := #[Go.Operand.tmp 76, Go.Operand.tmp 79], argTypes := #[5, 3] }, type := 5, pos := "ref.go:43", after := #[{ on := 1, ground := Go.Ground.data }, { on := 4, ground := Go.Ground.data }], guard := none }) (by kernel_rfl) rfl (fun K hK => ?_)
  go_simp
  refine (KA0.out _).mono ?_
  rintro e w' ⟨rfl, rfl⟩
  refine hK.out _ _ ?_ ?_
  · exact fun _ => hHeld
  clear hK K
  try simp only [Act.put, List.setIfInBounds_toArray, List.set_cons_zero, List.set_cons_succ]
  refine Mk.Upto.takeP (i := 19) (oi := { dst := some 94, op := Go.Op.fieldAddr 67 (Go.Operand.tmp 14) 0, type := 0, pos := "ref.go:43", after := #[{ on := 0, ground := Go.Ground.phase }, { on := 1, ground := Go.Ground.phase }, { on := 2, ground := Go.Ground.phase }, { on := 3, ground := Go.Ground.phase }, { on := 4, ground := Go.Ground.phase }, { on := 5, ground := Go.Ground.phase }, { on := 6, ground := Go.Ground.phase }, { on := 7, ground := Go.Ground.phase }, { on := 8, ground := Go.Ground.textOnly Go.Departure.lateStores }, { on := 9, ground := Go.Ground.textOnly Go.Departure.lateStores }, { on := 10, ground := Go.Ground.textOnly Go.Departure.lateStores }, { on := 11, ground := Go.Ground.textOnly Go.Departure.lateStores }, { on := 12, ground := Go.Ground.textOnly Go.Departure.lateStoresUnsure }, { on := 13, ground := Go.Ground.phase }, { on := 14, ground := Go.Ground.phase }, { on := 15, ground := Go.Ground.textOnly Go.Departure.lateStores }, { on := 16, ground := Go.Ground.textOnly Go.Departure.lateStores }, { on := 17, ground := Go.Ground.textOnly Go.Departure.lateStores }, { on := 18, ground := Go.Ground.textOnly Go.Departure.lateStoresUnsure }], guard := none }) (v := ?v19) rfl (by kernel_rfl) (by kernel_rfl) (by kernel_rfl) (by kernel_rfl) (fun _ _ _ h => h) (Or.inl ⟨by rfl, ?hy19⟩) (by assumption) ?rest19
  case hy19 =>
    intro w' hSw
    try dsimp only at hSw
    go_simp
    try with_reducible rfl
  try simp only [Act.put, List.setIfInBounds_toArray, List.set_cons_zero, List.set_cons_succ]
  refine Mk.Upto.one (i := 12) (o := { dst := some 87, op := Go.Op.call { callee := Go.Callee.value (Go.Operand.func 52), args := #[Go.Operand.tmp 82, Go.Operand.tmp 86], argTypes := #[5, 3] }, type := 5, pos := "ref.go:43", after := #[{ on := 7, ground := Go.Ground.data }, { on := 11, ground := Go.Ground.data }, { on := 5, ground := Go.Ground.chain }], guard := none }) (by kernel_rfl) rfl (fun K hK => ?_)
  go_simp
  refine (KA1.out _).mono ?_
  rintro e w' ⟨rfl, rfl⟩
  refine hK.out _ _ ?_ ?_
  · exact fun _ => hHeld
  clear hK K
  try simp only [Act.put, List.setIfInBounds_toArray, List.set_cons_zero, List.set_cons_succ]
  refine Mk.Upto.one (i := 18) (o := { dst := some 93, op := Go.Op.call { callee := Go.Callee.value (Go.Operand.func 52), args := #[Go.Operand.tmp 89, Go.Operand.tmp 92], argTypes := #[5, 3] }, type := 5, pos := "ref.go:43", after := #[{ on := 14, ground := Go.Ground.data }, { on := 17, ground := Go.Ground.data }, { on := 12, ground := Go.Ground.chain }], guard := none }) (by kernel_rfl) rfl (fun K hK => ?_)
  go_simp
  refine (KA2.out _).mono ?_
  rintro e w' ⟨rfl, rfl⟩
  refine hK.out _ _ ?_ ?_
  · exact fun _ => hHeld
  clear hK K
  try simp only [Act.put, List.setIfInBounds_toArray, List.set_cons_zero, List.set_cons_succ]
  refine Mk.Upto.one (i := 20) (o := { dst := none, op := Go.Op.store 5 (Go.Operand.tmp 94) (Go.Operand.tmp 80), type := 0, pos := "ref.go:43", after := #[{ on := 19, ground := Go.Ground.data }, { on := 5, ground := Go.Ground.data }, { on := 18, ground := Go.Ground.chain }, { on := 0, ground := Go.Ground.phase }, { on := 1, ground := Go.Ground.phase }, { on := 2, ground := Go.Ground.phase }, { on := 3, ground := Go.Ground.phase }, { on := 4, ground := Go.Ground.phase }, { on := 5, ground := Go.Ground.phase }, { on := 6, ground := Go.Ground.phase }, { on := 7, ground := Go.Ground.phase }, { on := 8, ground := Go.Ground.textOnly Go.Departure.lateStores }, { on := 9, ground := Go.Ground.textOnly Go.Departure.lateStores }, { on := 10, ground := Go.Ground.textOnly Go.Departure.lateStores }, { on := 11, ground := Go.Ground.textOnly Go.Departure.lateStores }, { on := 12, ground := Go.Ground.textOnly Go.Departure.lateStoresUnsure }, { on := 13, ground := Go.Ground.phase }, { on := 14, ground := Go.Ground.phase }, { on := 15, ground := Go.Ground.textOnly Go.Departure.lateStores }, { on := 16, ground := Go.Ground.textOnly Go.Departure.lateStores }, { on := 17, ground := Go.Ground.textOnly Go.Departure.lateStores }, { on := 18, ground := Go.Ground.textOnly Go.Departure.lateStoresUnsure }], guard := none }) (by kernel_rfl) rfl (fun K hK => ?_)
  go_simp
  refine hK.out _ _ ?_ ?_
  · exact fun h => absurd h (by decide)
  clear hK K
  try simp only [Act.put, List.setIfInBounds_toArray, List.set_cons_zero, List.set_cons_succ]
  refine Mk.Upto.one (i := 21) (o := { dst := some 95, op := Go.Op.fieldAddr 67 (Go.Operand.tmp 14) 1, type := 0, pos := "ref.go:43", after := #[{ on := 0, ground := Go.Ground.phase }, { on := 1, ground := Go.Ground.phase }, { on := 2, ground := Go.Ground.phase }, { on := 3, ground := Go.Ground.phase }, { on := 4, ground := Go.Ground.phase }, { on := 5, ground := Go.Ground.phase }, { on := 6, ground := Go.Ground.phase }, { on := 7, ground := Go.Ground.phase }, { on := 8, ground := Go.Ground.phase }, { on := 9, ground := Go.Ground.phase }, { on := 10, ground := Go.Ground.phase }, { on := 11, ground := Go.Ground.phase }, { on := 12, ground := Go.Ground.phase }, { on := 13, ground := Go.Ground.phase }, { on := 14, ground := Go.Ground.phase }, { on := 15, ground := Go.Ground.textOnly Go.Departure.lateStores }, { on := 16, ground := Go.Ground.textOnly Go.Departure.lateStores }, { on := 17, ground := Go.Ground.textOnly Go.Departure.lateStores }, { on := 18, ground := Go.Ground.textOnly Go.Departure.lateStoresUnsure }, { on := 19, ground := Go.Ground.phase }, { on := 20, ground := Go.Ground.phase }], guard := none }) (by kernel_rfl) rfl (fun K hK => ?_)
  go_simp
  refine hK.out _ _ ?_ ?_
  · exact fun h => absurd h (by decide)
  clear hK K
  try simp only [Act.put, List.setIfInBounds_toArray, List.set_cons_zero, List.set_cons_succ]
  refine Mk.Upto.one (i := 22) (o := { dst := none, op := Go.Op.store 5 (Go.Operand.tmp 95) (Go.Operand.tmp 87), type := 0, pos := "ref.go:43", after := #[{ on := 21, ground := Go.Ground.data }, { on := 12, ground := Go.Ground.data }, { on := 20, ground := Go.Ground.chain }, { on := 0, ground := Go.Ground.phase }, { on := 1, ground := Go.Ground.phase }, { on := 2, ground := Go.Ground.phase }, { on := 3, ground := Go.Ground.phase }, { on := 4, ground := Go.Ground.phase }, { on := 5, ground := Go.Ground.phase }, { on := 6, ground := Go.Ground.phase }, { on := 7, ground := Go.Ground.phase }, { on := 8, ground := Go.Ground.phase }, { on := 9, ground := Go.Ground.phase }, { on := 10, ground := Go.Ground.phase }, { on := 11, ground := Go.Ground.phase }, { on := 12, ground := Go.Ground.phase }, { on := 13, ground := Go.Ground.phase }, { on := 14, ground := Go.Ground.phase }, { on := 15, ground := Go.Ground.textOnly Go.Departure.lateStores }, { on := 16, ground := Go.Ground.textOnly Go.Departure.lateStores }, { on := 17, ground := Go.Ground.textOnly Go.Departure.lateStores }, { on := 18, ground := Go.Ground.textOnly Go.Departure.lateStoresUnsure }, { on := 19, ground := Go.Ground.phase }, { on := 20, ground := Go.Ground.phase }], guard := none }) (by kernel_rfl) rfl (fun K hK => ?_)
  go_simp
  refine hK.out _ _ ?_ ?_
  · exact fun h => absurd h (by decide)
  clear hK K
  try simp only [Act.put, List.setIfInBounds_toArray, List.set_cons_zero, List.set_cons_succ]
  refine Mk.Upto.one (i := 23) (o := { dst := some 96, op := Go.Op.fieldAddr 67 (Go.Operand.tmp 14) 2, type := 0, pos := "ref.go:43", after := #[{ on := 0, ground := Go.Ground.phase }, { on := 1, ground := Go.Ground.phase }, { on := 2, ground := Go.Ground.phase }, { on := 3, ground := Go.Ground.phase }, { on := 4, ground := Go.Ground.phase }, { on := 5, ground := Go.Ground.phase }, { on := 6, ground := Go.Ground.phase }, { on := 7, ground := Go.Ground.phase }, { on := 8, ground := Go.Ground.phase }, { on := 9, ground := Go.Ground.phase }, { on := 10, ground := Go.Ground.phase }, { on := 11, ground := Go.Ground.phase }, { on := 12, ground := Go.Ground.phase }, { on := 13, ground := Go.Ground.phase }, { on := 14, ground := Go.Ground.phase }, { on := 15, ground := Go.Ground.phase }, { on := 16, ground := Go.Ground.phase }, { on := 17, ground := Go.Ground.phase }, { on := 18, ground := Go.Ground.phase }, { on := 19, ground := Go.Ground.phase }, { on := 20, ground := Go.Ground.phase }, { on := 21, ground := Go.Ground.phase }, { on := 22, ground := Go.Ground.phase }], guard := none }) (by kernel_rfl) rfl (fun K hK => ?_)
  go_simp
  refine hK.out _ _ ?_ ?_
  · exact fun h => absurd h (by decide)
  clear hK K
  try simp only [Act.put, List.setIfInBounds_toArray, List.set_cons_zero, List.set_cons_succ]
  refine Mk.Upto.one (i := 24) (o := { dst := none, op := Go.Op.store 5 (Go.Operand.tmp 96) (Go.Operand.tmp 93), type := 0, pos := "ref.go:43", after := #[{ on := 23, ground := Go.Ground.data }, { on := 18, ground := Go.Ground.data }, { on := 22, ground := Go.Ground.chain }, { on := 0, ground := Go.Ground.phase }, { on := 1, ground := Go.Ground.phase }, { on := 2, ground := Go.Ground.phase }, { on := 3, ground := Go.Ground.phase }, { on := 4, ground := Go.Ground.phase }, { on := 5, ground := Go.Ground.phase }, { on := 6, ground := Go.Ground.phase }, { on := 7, ground := Go.Ground.phase }, { on := 8, ground := Go.Ground.phase }, { on := 9, ground := Go.Ground.phase }, { on := 10, ground := Go.Ground.phase }, { on := 11, ground := Go.Ground.phase }, { on := 12, ground := Go.Ground.phase }, { on := 13, ground := Go.Ground.phase }, { on := 14, ground := Go.Ground.phase }, { on := 15, ground := Go.Ground.phase }, { on := 16, ground := Go.Ground.phase }, { on := 17, ground := Go.Ground.phase }, { on := 18, ground := Go.Ground.phase }, { on := 19, ground := Go.Ground.phase }, { on := 20, ground := Go.Ground.phase }, { on := 21, ground := Go.Ground.phase }, { on := 22, ground := Go.Ground.phase }], guard := none }) (by kernel_rfl) rfl (fun K hK => ?_)
  go_simp
  refine hK.out _ _ ?_ ?_
  · exact fun h => absurd h (by decide)
  clear hK K
  try simp only [Act.put, List.setIfInBounds_toArray, List.set_cons_zero, List.set_cons_succ]
  refine Mk.Upto.done (by kernel_rfl) ?_ _
  have Z2 : ((((w3.setCell ⟨j2, 0, none⟩ (.int .u8 n0)).setCell ⟨j2, 1, none⟩ (.int .u8 n1)).setCell ⟨j2, 2, none⟩ (.int .u8 n2)).drew).heap[j2]? = some (.cells #[.int .u8 n0, .int .u8 n1, .int .u8 n2, .int .u8 a] 67 (0, 0)) :=
    blk_set (blk_set (blk_set HB2.out 0 _) 1 _) 2 _
  have Z1 : ((((w3.setCell ⟨j2, 0, none⟩ (.int .u8 n0)).setCell ⟨j2, 1, none⟩ (.int .u8 n1)).setCell ⟨j2, 2, none⟩ (.int .u8 n2)).drew).heap[j1]? = some (.cells #[.int .u8 0, .int .u8 0, .int .u8 0, .int .u8 0] 67 (0, 0)) :=
    blk_other (blk_other (blk_other HB1.out m1) m1) m1
  have HGZ := Lib.hid (show W.grownBy ((((w3.setCell ⟨j2, 0, none⟩ (.int .u8 n0)).setCell ⟨j2, 1, none⟩ (.int .u8 n1)).setCell ⟨j2, 2, none⟩ (.int .u8 n2)).drew) none from gb_trans (gb_own (gb_own (gb_own HG3.out HJ.out.2 (gb_set _ _ _ _)) HJ.out.2 (gb_set _ _ _ _)) HJ.out.2 (gb_set _ _ _ _)) (gb_drew _ none))
  have HM := Lib.hid (And.intro m1 m2)
  clear hHeld x20 x21 x22 x23 x10 x11 x12 x13 z20 z21 z22 z23 z10 z11 z12 z13 hl1 hl2 m1 m2
  generalize (((w3.setCell ⟨j2, 0, none⟩ (.int .u8 n0)).setCell ⟨j2, 1, none⟩ (.int .u8 n1)).setCell ⟨j2, 2, none⟩ (.int .u8 n2)).drew = wz at Z2 Z1 HGZ ⊢
  have x20 := blk_cell Z2 0
  have x21 := blk_cell Z2 1
  have x22 := blk_cell Z2 2
  have x23 := blk_cell Z2 3
  have x10 := blk_cell Z1 0
  have x11 := blk_cell Z1 1
  have x12 := blk_cell Z1 2
  have x13 := blk_cell Z1 3
  simp only [List.getElem?_toArray, List.getElem?_cons_succ, List.getElem?_cons_zero] at x20 x21 x22 x23 x10 x11 x12 x13
  have z10 := blk_free Z1 0
  have z11 := blk_free Z1 1
  have z12 := blk_free Z1 2
  have z13 := blk_free Z1 3
  have hl1 := blk_lt Z1
  have hl2 := blk_lt Z2
  clear Z1 Z2 KA0 KA1 KA2 hd0 hd1 hd2 x0 x1 x2 wd0 wd1 wd2 w0 w1 w2 t0' t1' t2' t3' v1 v2 k64
  go_wp2
  refine bodyPost_ret (v := .tuple #[.agg #[.int .u8 n0, .int .u8 n1, .int .u8 n2, .int .u8 a], .int .i64 1, .int .i64 1, .bool true]) (by simp only [results, Tryz.results31]; go_simp) rfl ⟨rfl, ?_⟩
  repeat (first | refine gb_own ?_ HJ.out.1 (gb_set _ _ _ _))
  exact HGZ.out

end Go.Proofs.YtmhghkgcfgacdaaGreat.Qo

/- Layer 26: the document's Step (written by wip/gen/qe1.py). -/
namespace Go.Proofs.YtmhghkgcfgacdaaGreat.Qo
open Go.ChangeShapes Go.WideShapes Go.ChangeAt Go.RowKit
open Go.Proofs.YtmhghkgcfgacdaaGreat.Le Go.Proofs.YtmhghkgcfgacdaaGreat.Tk Go.Proofs.YtmhghkgcfgacdaaGreat.Sr Go.Proofs.YtmhghkgcfgacdaaGreat.Sh Go.Proofs.YtmhghkgcfgacdaaGreat.Qw
open Go.Proofs.YtmhghkgcfgacdaaGreat.Ra hiding bt
set_option linter.unusedVariables false

set_option maxRecDepth 100000 in
set_option maxHeartbeats 4000000 in
theorem rstep_E (s : ByteArray) (p b g : Nat) (last : C4) (seen : Nat → C4) (W : World) (hp : p < s.size) (hsz : s.size ≤ 1000000) (ok : last.ok) (oks : ∀ k, (seen k).ok) (S : SnD g seen W) (hb : bt s p = b) (hc : 128 ≤ b ∧ b < 192) (hn : p + 2 ≤ s.size) :
    Calls Tryz.prog 31 #[.string s, .int .i64 p, cV last, .slice (some ⟨g, 0, none⟩) 64 64] W fun e w' => e = .returned (.tuple #[cV (colQ s p last seen), .int .i64 (tms (bt s p) : Nat), .int .i64 (nb (bt s p) : Nat), .bool true]) ∧ W.grownBy w' none := by
  have hb256 := bt_lt s p
  rw [hb] at hb256
  have y0 := bt_cell s p hp hb
  obtain ⟨r, gg, bl, a⟩ := last
  obtain ⟨k1, k2, k3, k4⟩ := ok
  have i1 : decide ((s.size : Int) < (p : Int) + 2) = false := decide_eq_false (by omega)
  have i1' : ¬ (s.size : Int) < (p : Int) + 2 := by omega
  have e254 : ((b : Int) == 254) = false := by rw [beq_eq_false_iff_ne]; omega
  have n254 : ¬ (b : Int) = 254 := by omega
  have e255 : ((b : Int) == 255) = false := by rw [beq_eq_false_iff_ne]; omega
  have n255 : ¬ (b : Int) = 255 := by omega
  have g128 : (128 : Int) ≤ (b : Int) := by omega
  have g128b : decide ((128 : Int) ≤ (b : Int)) = true := decide_eq_true (by omega)
  have l192 : (b : Int) < 192 := by omega
  have l192b : decide ((b : Int) < 192) = true := decide_eq_true (by omega)
  have l64 : ¬ (b : Int) < 64 := by omega
  have l64b : decide ((b : Int) < 64) = false := decide_eq_false (by omega)
  have l128 : ¬ (b : Int) < 128 := by omega
  have l128b : decide ((b : Int) < 128) = false := decide_eq_false (by omega)
  have hcol : colQ s p ⟨r, gg, bl, a⟩ seen = mv ⟨r, gg, bl, a⟩ (((b : Int) - 160) + ((bt s (p + 1) / 16 : Nat) : Int) - 8) ((b : Int) - 160) (((b : Int) - 160) + ((bt s (p + 1) % 16 : Nat) : Int) - 8) := by unfold colQ; rw [hb]; rw [if_neg (by omega), if_neg (by omega), if_neg (by omega), if_neg (by omega), if_pos (by omega)]
  have htn : tms (bt s p) = 1 ∧ nb (bt s p) = 2 := by rw [hb]; unfold tms nb; constructor <;> (repeat' split) <;> omega
  rw [hcol, htn.1, htn.2]
  obtain ⟨x1, hx1⟩ : ∃ x, bt s (p + 1) = x := ⟨_, rfl⟩
  obtain ⟨q1, hq1⟩ : ∃ q, p + 1 = q := ⟨_, rfl⟩
  have y1 := bt_cell s q1 (by omega) (show bt s q1 = x1 by rw [← hq1]; exact hx1)
  have v1 : IntKind.i64.wrap ((p : Int) + 1) = (q1 : Int) := by rw [IntWalk.i64_in _ (by omega)]; omega
  have u1 : (p : Int) + 1 = (q1 : Int) := by omega
  have z1 : q1 < s.size := by omega
  have z1b : (q1 : Int) < (s.size : Int) := by omega
  rw [hx1]
  have x256 : x1 < 256 := by rw [← hx1]; exact bt_lt _ _
  obtain ⟨d1, hd1⟩ : ∃ d : Int, (b : Int) - 160 = d := ⟨_, rfl⟩
  rw [hd1]
  obtain ⟨c0, hc0⟩ : ∃ c, x1 / 16 = c := ⟨_, rfl⟩
  obtain ⟨c2, hc2⟩ : ∃ c, x1 % 16 = c := ⟨_, rfl⟩
  rw [hc0, hc2]
  have p1 : IntKind.i64.wrap ((b : Int) - 128) = (b : Int) - 128 := IntWalk.i64_in _ (by omega)
  have p2 : IntKind.i64.wrap ((b : Int) - 128 - 32) = d1 := by rw [IntWalk.i64_in _ (by omega)]; omega
  have p3 : (b : Int) - 128 - 32 = d1 := by omega
  have t0 : (x1 : Int) / 16 = (c0 : Int) := by omega
  have t2 : (x1 : Int) % 16 = (c2 : Int) := by omega
  have t0' : (x1 : Int).tdiv 16 = (c0 : Int) := by rw [Int.tdiv_eq_ediv_of_nonneg (by omega)]; exact t0
  have t2' : (x1 : Int).tmod 16 = (c2 : Int) := by rw [Int.tmod_eq_emod_of_nonneg (by omega)]; exact t2
  obtain ⟨s0, hs0⟩ : ∃ d : Int, d1 + (c0 : Int) = d := ⟨_, rfl⟩
  obtain ⟨s2, hs2⟩ : ∃ d : Int, d1 + (c2 : Int) = d := ⟨_, rfl⟩
  rw [hs0, hs2]
  obtain ⟨d0, hd0⟩ : ∃ d : Int, s0 - 8 = d := ⟨_, rfl⟩
  obtain ⟨d2, hd2⟩ : ∃ d : Int, s2 - 8 = d := ⟨_, rfl⟩
  rw [hd0, hd2]
  have r0 : IntKind.i64.wrap (d1 + (c0 : Int)) = s0 := by rw [IntWalk.i64_in _ (by omega)]; omega
  have r2 : IntKind.i64.wrap (d1 + (c2 : Int)) = s2 := by rw [IntWalk.i64_in _ (by omega)]; omega
  have r3 : IntKind.i64.wrap (s0 - 8) = d0 := by rw [IntWalk.i64_in _ (by omega)]; omega
  have r4 : IntKind.i64.wrap (s2 - 8) = d2 := by rw [IntWalk.i64_in _ (by omega)]; omega
  have wd0 : IntKind.i64.wrap d0 = d0 := IntWalk.i64_in _ (by omega)
  have wd1 : IntKind.i64.wrap d1 = d1 := IntWalk.i64_in _ (by omega)
  have wd2 : IntKind.i64.wrap d2 = d2 := IntWalk.i64_in _ (by omega)
  have ws0 : IntKind.i64.wrap s0 = s0 := IntWalk.i64_in _ (by omega)
  have ws2 : IntKind.i64.wrap s2 = s2 := IntWalk.i64_in _ (by omega)
  have w0 : IntKind.i64.wrap (c0 : Int) = (c0 : Int) := IntWalk.i64_in _ (by omega)
  have w2 : IntKind.i64.wrap (c2 : Int) = (c2 : Int) := IntWalk.i64_in _ (by omega)
  obtain ⟨n0, h0⟩ : ∃ n, adm r d0 = n := ⟨_, rfl⟩
  obtain ⟨n1, h1⟩ : ∃ n, adm gg d1 = n := ⟨_, rfl⟩
  obtain ⟨n2, h2⟩ : ∃ n, adm bl d2 = n := ⟨_, rfl⟩
  have KA0 := fun u => radd_calls r d0 k1 (by omega) u
  have KA1 := fun u => radd_calls gg d1 k2 (by omega) u
  have KA2 := fun u => radd_calls bl d2 k3 (by omega) u
  rw [h0] at KA0
  rw [h1] at KA1
  rw [h2] at KA2
  have KA0 := Lib.hid KA0
  have KA1 := Lib.hid KA1
  have KA2 := Lib.hid KA2
  unfold cV mv cQ
  simp only
  rw [h0, h1, h2]
  clear oks S hb hcol htn hc0 hc2 h0 h1 h2 t0 t2 hx1
  go_enter Tryz.func31, Tryz.ntmps31
  go_upto_region 23 with fail
  have G3 : W.grownBy (((W.alloc (.cells #[.int .u8 r, .int .u8 gg, .int .u8 bl, .int .u8 a] 67)).alloc (.cells #[.int .u8 0, .int .u8 0, .int .u8 0, .int .u8 0] 67)).alloc (.cells #[.int .u8 r, .int .u8 gg, .int .u8 bl, .int .u8 a] 67)) none := gb_trans (gb_trans (World.grownBy_alloc W _ none) (World.grownBy_alloc _ _ none)) (World.grownBy_alloc _ _ none)
  have B2 : (((W.alloc (.cells #[.int .u8 r, .int .u8 gg, .int .u8 bl, .int .u8 a] 67)).alloc (.cells #[.int .u8 0, .int .u8 0, .int .u8 0, .int .u8 0] 67)).alloc (.cells #[.int .u8 r, .int .u8 gg, .int .u8 bl, .int .u8 a] 67)).heap[W.heap.size + 1 + 1]? = some (.cells #[.int .u8 r, .int .u8 gg, .int .u8 bl, .int .u8 a] 67 (0, 0)) := by
    have h := blk_at (w := (W.alloc (.cells #[.int .u8 r, .int .u8 gg, .int .u8 bl, .int .u8 a] 67)).alloc (.cells #[.int .u8 0, .int .u8 0, .int .u8 0, .int .u8 0] 67)) (o := .cells #[.int .u8 r, .int .u8 gg, .int .u8 bl, .int .u8 a] 67)
    rw [size_alloc, size_alloc] at h
    exact h
  have B1 : (((W.alloc (.cells #[.int .u8 r, .int .u8 gg, .int .u8 bl, .int .u8 a] 67)).alloc (.cells #[.int .u8 0, .int .u8 0, .int .u8 0, .int .u8 0] 67)).alloc (.cells #[.int .u8 r, .int .u8 gg, .int .u8 bl, .int .u8 a] 67)).heap[W.heap.size + 1]? = some (.cells #[.int .u8 0, .int .u8 0, .int .u8 0, .int .u8 0] 67 (0, 0)) := by
    have h := blk_at (w := W.alloc (.cells #[.int .u8 r, .int .u8 gg, .int .u8 bl, .int .u8 a] 67)) (o := .cells #[.int .u8 0, .int .u8 0, .int .u8 0, .int .u8 0] 67)
    rw [size_alloc] at h
    exact blk_al h _
  have m1 : ¬ W.heap.size + 1 = W.heap.size + 1 + 1 := by omega
  have m2 : ¬ W.heap.size + 1 + 1 = W.heap.size + 1 := by omega
  obtain ⟨j2, hj2⟩ : ∃ j, W.heap.size + 1 + 1 = j := ⟨_, rfl⟩
  obtain ⟨j1, hj1⟩ : ∃ j, W.heap.size + 1 = j := ⟨_, rfl⟩
  generalize (((W.alloc (.cells #[.int .u8 r, .int .u8 gg, .int .u8 bl, .int .u8 a] 67)).alloc (.cells #[.int .u8 0, .int .u8 0, .int .u8 0, .int .u8 0] 67)).alloc (.cells #[.int .u8 r, .int .u8 gg, .int .u8 bl, .int .u8 a] 67)) = w3 at G3 B2 B1 ⊢
  rw [hj2, hj1] at m1 m2
  rw [hj2] at B2
  rw [hj1] at B1
  rw [hj2, hj1]
  have HJ := Lib.hid (show W.heap.size ≤ j1 ∧ W.heap.size ≤ j2 by omega)
  clear hj1 hj2
  have HG3 := Lib.hid G3
  have hl2 := blk_lt B2
  have hl1 := blk_lt B1
  have x20 := blk_cell B2 0
  have x21 := blk_cell B2 1
  have x22 := blk_cell B2 2
  have x23 := blk_cell B2 3
  have x10 := blk_cell B1 0
  have x11 := blk_cell B1 1
  have x12 := blk_cell B1 2
  have x13 := blk_cell B1 3
  simp only [List.getElem?_toArray, List.getElem?_cons_succ, List.getElem?_cons_zero] at x20 x21 x22 x23 x10 x11 x12 x13
  have z20 := blk_free B2 0
  have z21 := blk_free B2 1
  have z22 := blk_free B2 2
  have z23 := blk_free B2 3
  have z10 := blk_free B1 0
  have z11 := blk_free B1 1
  have z12 := blk_free B1 2
  have z13 := blk_free B1 3
  have HB1 := Lib.hid B1
  have HB2 := Lib.hid B2
  clear B1 B2 G3
  go_region
  go_upto_region 24 with fail
  refine Mk.region_upto (S := (fun w' => w'.cell? ⟨j2, 0, none⟩ = some (.int .u8 r) ∧ w'.cell? ⟨j2, 1, none⟩ = some (.int .u8 gg) ∧ w'.cell? ⟨j2, 2, none⟩ = some (.int .u8 bl))) 21 (by kernel_rfl) ?_ (fun hHeld => ?_)
  · first | exact trivial | go_keep
  refine Mk.Upto.takeP (i := 0) (oi := { dst := some 107, op := Go.Op.fieldAddr 67 (Go.Operand.tmp 14) 0, type := 0, pos := "ref.go:46", after := #[], guard := none }) (v := ?v0) rfl (by kernel_rfl) (by kernel_rfl) (by kernel_rfl) (by kernel_rfl) (fun _ _ _ h => h) (Or.inl ⟨by rfl, ?hy0⟩) (by assumption) ?rest0
  case hy0 =>
    intro w' hSw
    try dsimp only at hSw
    go_simp
    try with_reducible rfl
  try simp only [Act.put, List.setIfInBounds_toArray, List.set_cons_zero, List.set_cons_succ]
  refine Mk.Upto.take (i := 1) (oi := { dst := some 108, op := Go.Op.load 5 (Go.Operand.tmp 107), type := 5, pos := "ref.go:46", after := #[{ on := 0, ground := Go.Ground.data }], guard := none }) (v := ?v1) rfl (by kernel_rfl) (by kernel_rfl) (by kernel_rfl) (by kernel_rfl) (fun _ _ _ h => h) (Or.inl ⟨by rfl, ?hy1⟩) (by assumption) ?rest1
  case hy1 =>
    intro w' hSw
    try dsimp only at hSw
    go_simp
    try with_reducible rfl
  try simp only [Act.put, List.setIfInBounds_toArray, List.set_cons_zero, List.set_cons_succ]
  refine Mk.Upto.takeP (i := 2) (oi := { dst := some 109, op := Go.Op.move (Go.Operand.tmp 17), type := 3, pos := "ref.go:46", after := #[], guard := none }) (v := ?v2) rfl (by kernel_rfl) (by kernel_rfl) (by kernel_rfl) (by kernel_rfl) (fun _ _ _ h => h) (Or.inl ⟨by rfl, ?hy2⟩) (by assumption) ?rest2
  case hy2 =>
    intro w' hSw
    try dsimp only at hSw
    go_simp
    try with_reducible rfl
  try simp only [Act.put, List.setIfInBounds_toArray, List.set_cons_zero, List.set_cons_succ]
  refine Mk.Upto.takeP (i := 3) (oi := { dst := some 110, op := Go.Op.move (Go.Operand.tmp 18), type := 3, pos := "ref.go:46", after := #[], guard := none }) (v := ?v3) rfl (by kernel_rfl) (by kernel_rfl) (by kernel_rfl) (by kernel_rfl) (fun _ _ _ h => h) (Or.inl ⟨by rfl, ?hy3⟩) (by assumption) ?rest3
  case hy3 =>
    intro w' hSw
    try dsimp only at hSw
    go_simp
    try with_reducible rfl
  try simp only [Act.put, List.setIfInBounds_toArray, List.set_cons_zero, List.set_cons_succ]
  refine Mk.Upto.takeP (i := 4) (oi := { dst := some 111, op := Go.Op.binOp Go.BinOp.quo 3 (Go.Operand.tmp 110) (Go.Operand.const (Go.Value.int Go.IntKind.i64 16)) 3, type := 3, pos := "ref.go:46", after := #[{ on := 3, ground := Go.Ground.data }], guard := none }) (v := ?v4) rfl (by kernel_rfl) (by kernel_rfl) (by kernel_rfl) (by kernel_rfl) (fun _ _ _ h => h) (Or.inl ⟨by rfl, ?hy4⟩) (by assumption) ?rest4
  case hy4 =>
    intro w' hSw
    try dsimp only at hSw
    go_simp
    try with_reducible rfl
  try simp only [Act.put, List.setIfInBounds_toArray, List.set_cons_zero, List.set_cons_succ]
  refine Mk.Upto.takeP (i := 5) (oi := { dst := some 112, op := Go.Op.binOp Go.BinOp.add 3 (Go.Operand.tmp 109) (Go.Operand.tmp 111) 3, type := 3, pos := "ref.go:46", after := #[{ on := 2, ground := Go.Ground.data }, { on := 4, ground := Go.Ground.data }], guard := none }) (v := ?v5) rfl (by kernel_rfl) (by kernel_rfl) (by kernel_rfl) (by kernel_rfl) (fun _ _ _ h => h) (Or.inl ⟨by rfl, ?hy5⟩) (by assumption) ?rest5
  case hy5 =>
    intro w' hSw
    try dsimp only at hSw
    go_simp
    try with_reducible rfl
  try simp only [Act.put, List.setIfInBounds_toArray, List.set_cons_zero, List.set_cons_succ]
  refine Mk.Upto.takeP (i := 6) (oi := { dst := some 113, op := Go.Op.binOp Go.BinOp.sub 3 (Go.Operand.tmp 112) (Go.Operand.const (Go.Value.int Go.IntKind.i64 8)) 3, type := 3, pos := "ref.go:46", after := #[{ on := 5, ground := Go.Ground.data }], guard := none }) (v := ?v6) rfl (by kernel_rfl) (by kernel_rfl) (by kernel_rfl) (by kernel_rfl) (fun _ _ _ h => h) (Or.inl ⟨by rfl, ?hy6⟩) (by assumption) ?rest6
  case hy6 =>
    intro w' hSw
    try dsimp only at hSw
    go_simp
    try with_reducible rfl
  try simp only [Act.put, List.setIfInBounds_toArray, List.set_cons_zero, List.set_cons_succ]
  refine Mk.Upto.takeP (i := 8) (oi := { dst := some 115, op := Go.Op.fieldAddr 67 (Go.Operand.tmp 14) 1, type := 0, pos := "ref.go:46", after := #[], guard := none }) (v := ?v8) rfl (by kernel_rfl) (by kernel_rfl) (by kernel_rfl) (by kernel_rfl) (fun _ _ _ h => h) (Or.inl ⟨by rfl, ?hy8⟩) (by assumption) ?rest8
  case hy8 =>
    intro w' hSw
    try dsimp only at hSw
    go_simp
    try with_reducible rfl
  try simp only [Act.put, List.setIfInBounds_toArray, List.set_cons_zero, List.set_cons_succ]
  refine Mk.Upto.take (i := 9) (oi := { dst := some 116, op := Go.Op.load 5 (Go.Operand.tmp 115), type := 5, pos := "ref.go:46", after := #[{ on := 8, ground := Go.Ground.data }], guard := none }) (v := ?v9) rfl (by kernel_rfl) (by kernel_rfl) (by kernel_rfl) (by kernel_rfl) (fun _ _ _ h => h) (Or.inl ⟨by rfl, ?hy9⟩) (by assumption) ?rest9
  case hy9 =>
    intro w' hSw
    try dsimp only at hSw
    go_simp
    try with_reducible rfl
  try simp only [Act.put, List.setIfInBounds_toArray, List.set_cons_zero, List.set_cons_succ]
  refine Mk.Upto.takeP (i := 10) (oi := { dst := some 117, op := Go.Op.move (Go.Operand.tmp 17), type := 3, pos := "ref.go:46", after := #[], guard := none }) (v := ?v10) rfl (by kernel_rfl) (by kernel_rfl) (by kernel_rfl) (by kernel_rfl) (fun _ _ _ h => h) (Or.inl ⟨by rfl, ?hy10⟩) (by assumption) ?rest10
  case hy10 =>
    intro w' hSw
    try dsimp only at hSw
    go_simp
    try with_reducible rfl
  try simp only [Act.put, List.setIfInBounds_toArray, List.set_cons_zero, List.set_cons_succ]
  refine Mk.Upto.takeP (i := 12) (oi := { dst := some 119, op := Go.Op.fieldAddr 67 (Go.Operand.tmp 14) 2, type := 0, pos := "ref.go:46", after := #[], guard := none }) (v := ?v12) rfl (by kernel_rfl) (by kernel_rfl) (by kernel_rfl) (by kernel_rfl) (fun _ _ _ h => h) (Or.inl ⟨by rfl, ?hy12⟩) (by assumption) ?rest12
  case hy12 =>
    intro w' hSw
    try dsimp only at hSw
    go_simp
    try with_reducible rfl
  try simp only [Act.put, List.setIfInBounds_toArray, List.set_cons_zero, List.set_cons_succ]
  refine Mk.Upto.take (i := 13) (oi := { dst := some 120, op := Go.Op.load 5 (Go.Operand.tmp 119), type := 5, pos := "ref.go:46", after := #[{ on := 12, ground := Go.Ground.data }], guard := none }) (v := ?v13) rfl (by kernel_rfl) (by kernel_rfl) (by kernel_rfl) (by kernel_rfl) (fun _ _ _ h => h) (Or.inl ⟨by rfl, ?hy13⟩) (by assumption) ?rest13
  case hy13 =>
    intro w' hSw
    try dsimp only at hSw
    go_simp
    try with_reducible rfl
  try simp only [Act.put, List.setIfInBounds_toArray, List.set_cons_zero, List.set_cons_succ]
  refine Mk.Upto.takeP (i := 14) (oi := { dst := some 121, op := Go.Op.move (Go.Operand.tmp 17), type := 3, pos := "ref.go:46", after := #[], guard := none }) (v := ?v14) rfl (by kernel_rfl) (by kernel_rfl) (by kernel_rfl) (by kernel_rfl) (fun _ _ _ h => h) (Or.inl ⟨by rfl, ?hy14⟩) (by assumption) ?rest14
  case hy14 =>
    intro w' hSw
    try dsimp only at hSw
    go_simp
    try with_reducible rfl
  try simp only [Act.put, List.setIfInBounds_toArray, List.set_cons_zero, List.set_cons_succ]
  refine Mk.Upto.takeP (i := 15) (oi := { dst := some 122, op := Go.Op.move (Go.Operand.tmp 18), type := 3, pos := "ref.go:46", after := #[], guard := none }) (v := ?v15) rfl (by kernel_rfl) (by kernel_rfl) (by kernel_rfl) (by kernel_rfl) (fun _ _ _ h => h) (Or.inl ⟨by rfl, ?hy15⟩) (by assumption) ?rest15
  case hy15 =>
    intro w' hSw
    try dsimp only at hSw
    go_simp
    try with_reducible rfl
  try simp only [Act.put, List.setIfInBounds_toArray, List.set_cons_zero, List.set_cons_succ]
  refine Mk.Upto.takeP (i := 16) (oi := { dst := some 123, op := Go.Op.binOp Go.BinOp.rem 3 (Go.Operand.tmp 122) (Go.Operand.const (Go.Value.int Go.IntKind.i64 16)) 3, type := 3, pos := "ref.go:46", after := #[{ on := 15, ground := Go.Ground.data }], guard := none }) (v := ?v16) rfl (by kernel_rfl) (by kernel_rfl) (by kernel_rfl) (by kernel_rfl) (fun _ _ _ h => h) (Or.inl ⟨by rfl, ?hy16⟩) (by assumption) ?rest16
  case hy16 =>
    intro w' hSw
    try dsimp only at hSw
    go_simp
    try with_reducible rfl
  try simp only [Act.put, List.setIfInBounds_toArray, List.set_cons_zero, List.set_cons_succ]
  refine Mk.Upto.takeP (i := 17) (oi := { dst := some 124, op := Go.Op.binOp Go.BinOp.add 3 (Go.Operand.tmp 121) (Go.Operand.tmp 123) 3, type := 3, pos := "ref.go:46", after := #[{ on := 14, ground := Go.Ground.data }, { on := 16, ground := Go.Ground.data }], guard := none }) (v := ?v17) rfl (by kernel_rfl) (by kernel_rfl) (by kernel_rfl) (by kernel_rfl) (fun _ _ _ h => h) (Or.inl ⟨by rfl, ?hy17⟩) (by assumption) ?rest17
  case hy17 =>
    intro w' hSw
    try dsimp only at hSw
    go_simp
    try with_reducible rfl
  try simp only [Act.put, List.setIfInBounds_toArray, List.set_cons_zero, List.set_cons_succ]
  refine Mk.Upto.takeP (i := 18) (oi := { dst := some 125, op := Go.Op.binOp Go.BinOp.sub 3 (Go.Operand.tmp 124) (Go.Operand.const (Go.Value.int Go.IntKind.i64 8)) 3, type := 3, pos := "ref.go:46", after := #[{ on := 17, ground := Go.Ground.data }], guard := none }) (v := ?v18) rfl (by kernel_rfl) (by kernel_rfl) (by kernel_rfl) (by kernel_rfl) (fun _ _ _ h => h) (Or.inl ⟨by rfl, ?hy18⟩) (by assumption) ?rest18
  case hy18 =>
    intro w' hSw
    try dsimp only at hSw
    go_simp
    try with_reducible rfl
  try simp only [Act.put, List.setIfInBounds_toArray, List.set_cons_zero, List.set_cons_succ]
  refine Mk.Upto.one (i := 7) (o := { dst := some 114, op := Go.Op.call { callee := Go.Callee.value (Go.Operand.func 52), args := #[Go.Operand.tmp 108, Go.Operand.tmp 113], argTypes := #[5, 3] }, type := 5, pos := "ref.go:46", after := #[{ on := 1, ground := Go.Ground.data }, { on := 6, ground := Go.Ground.data }], guard := none }) (by kernel_rfl) rfl (fun K hK => ?_)
  go_simp
  refine (KA0.out _).mono ?_
  rintro e w' ⟨rfl, rfl⟩
  refine hK.out _ _ ?_ ?_
  · exact fun _ => hHeld
  clear hK K
  try simp only [Act.put, List.setIfInBounds_toArray, List.set_cons_zero, List.set_cons_succ]
  refine Mk.Upto.takeP (i := 20) (oi := { dst := some 127, op := Go.Op.fieldAddr 67 (Go.Operand.tmp 14) 0, type := 0, pos := "ref.go:46", after := #[{ on := 0, ground := Go.Ground.phase }, { on := 1, ground := Go.Ground.phase }, { on := 2, ground := Go.Ground.phase }, { on := 3, ground := Go.Ground.phase }, { on := 4, ground := Go.Ground.phase }, { on := 5, ground := Go.Ground.phase }, { on := 6, ground := Go.Ground.phase }, { on := 7, ground := Go.Ground.phase }, { on := 8, ground := Go.Ground.phase }, { on := 9, ground := Go.Ground.phase }, { on := 10, ground := Go.Ground.textOnly Go.Departure.lateStores }, { on := 11, ground := Go.Ground.textOnly Go.Departure.lateStoresUnsure }, { on := 12, ground := Go.Ground.phase }, { on := 13, ground := Go.Ground.phase }, { on := 14, ground := Go.Ground.textOnly Go.Departure.lateStores }, { on := 15, ground := Go.Ground.textOnly Go.Departure.lateStores }, { on := 16, ground := Go.Ground.textOnly Go.Departure.lateStores }, { on := 17, ground := Go.Ground.textOnly Go.Departure.lateStores }, { on := 18, ground := Go.Ground.textOnly Go.Departure.lateStores }, { on := 19, ground := Go.Ground.textOnly Go.Departure.lateStoresUnsure }], guard := none }) (v := ?v20) rfl (by kernel_rfl) (by kernel_rfl) (by kernel_rfl) (by kernel_rfl) (fun _ _ _ h => h) (Or.inl ⟨by rfl, ?hy20⟩) (by assumption) ?rest20
  case hy20 =>
    intro w' hSw
    try dsimp only at hSw
    go_simp
    try with_reducible rfl
  try simp only [Act.put, List.setIfInBounds_toArray, List.set_cons_zero, List.set_cons_succ]
  refine Mk.Upto.one (i := 11) (o := { dst := some 118, op := Go.Op.call { callee := Go.Callee.value (Go.Operand.func 52), args := #[Go.Operand.tmp 116, Go.Operand.tmp 117], argTypes := #[5, 3] }, type := 5, pos := "ref.go:46", after := #[{ on := 9, ground := Go.Ground.data }, { on := 10, ground := Go.Ground.data }, { on := 7, ground := Go.Ground.chain }], guard := none }) (by kernel_rfl) rfl (fun K hK => ?_)
  go_simp
  refine (KA1.out _).mono ?_
  rintro e w' ⟨rfl, rfl⟩
  refine hK.out _ _ ?_ ?_
  · exact fun _ => hHeld
  clear hK K
  try simp only [Act.put, List.setIfInBounds_toArray, List.set_cons_zero, List.set_cons_succ]
  refine Mk.Upto.one (i := 19) (o := { dst := some 126, op := Go.Op.call { callee := Go.Callee.value (Go.Operand.func 52), args := #[Go.Operand.tmp 120, Go.Operand.tmp 125], argTypes := #[5, 3] }, type := 5, pos := "ref.go:46", after := #[{ on := 13, ground := Go.Ground.data }, { on := 18, ground := Go.Ground.data }, { on := 11, ground := Go.Ground.chain }], guard := none }) (by kernel_rfl) rfl (fun K hK => ?_)
  go_simp
  refine (KA2.out _).mono ?_
  rintro e w' ⟨rfl, rfl⟩
  refine hK.out _ _ ?_ ?_
  · exact fun _ => hHeld
  clear hK K
  try simp only [Act.put, List.setIfInBounds_toArray, List.set_cons_zero, List.set_cons_succ]
  refine Mk.Upto.one (i := 21) (o := { dst := none, op := Go.Op.store 5 (Go.Operand.tmp 127) (Go.Operand.tmp 114), type := 0, pos := "ref.go:46", after := #[{ on := 20, ground := Go.Ground.data }, { on := 7, ground := Go.Ground.data }, { on := 19, ground := Go.Ground.chain }, { on := 0, ground := Go.Ground.phase }, { on := 1, ground := Go.Ground.phase }, { on := 2, ground := Go.Ground.phase }, { on := 3, ground := Go.Ground.phase }, { on := 4, ground := Go.Ground.phase }, { on := 5, ground := Go.Ground.phase }, { on := 6, ground := Go.Ground.phase }, { on := 7, ground := Go.Ground.phase }, { on := 8, ground := Go.Ground.phase }, { on := 9, ground := Go.Ground.phase }, { on := 10, ground := Go.Ground.textOnly Go.Departure.lateStores }, { on := 11, ground := Go.Ground.textOnly Go.Departure.lateStoresUnsure }, { on := 12, ground := Go.Ground.phase }, { on := 13, ground := Go.Ground.phase }, { on := 14, ground := Go.Ground.textOnly Go.Departure.lateStores }, { on := 15, ground := Go.Ground.textOnly Go.Departure.lateStores }, { on := 16, ground := Go.Ground.textOnly Go.Departure.lateStores }, { on := 17, ground := Go.Ground.textOnly Go.Departure.lateStores }, { on := 18, ground := Go.Ground.textOnly Go.Departure.lateStores }, { on := 19, ground := Go.Ground.textOnly Go.Departure.lateStoresUnsure }], guard := none }) (by kernel_rfl) rfl (fun K hK => ?_)
  go_simp
  refine hK.out _ _ ?_ ?_
  · exact fun h => absurd h (by decide)
  clear hK K
  try simp only [Act.put, List.setIfInBounds_toArray, List.set_cons_zero, List.set_cons_succ]
  refine Mk.Upto.one (i := 22) (o := { dst := some 128, op := Go.Op.fieldAddr 67 (Go.Operand.tmp 14) 1, type := 0, pos := "ref.go:46", after := #[{ on := 0, ground := Go.Ground.phase }, { on := 1, ground := Go.Ground.phase }, { on := 2, ground := Go.Ground.phase }, { on := 3, ground := Go.Ground.phase }, { on := 4, ground := Go.Ground.phase }, { on := 5, ground := Go.Ground.phase }, { on := 6, ground := Go.Ground.phase }, { on := 7, ground := Go.Ground.phase }, { on := 8, ground := Go.Ground.phase }, { on := 9, ground := Go.Ground.phase }, { on := 10, ground := Go.Ground.phase }, { on := 11, ground := Go.Ground.phase }, { on := 12, ground := Go.Ground.phase }, { on := 13, ground := Go.Ground.phase }, { on := 14, ground := Go.Ground.textOnly Go.Departure.lateStores }, { on := 15, ground := Go.Ground.textOnly Go.Departure.lateStores }, { on := 16, ground := Go.Ground.textOnly Go.Departure.lateStores }, { on := 17, ground := Go.Ground.textOnly Go.Departure.lateStores }, { on := 18, ground := Go.Ground.textOnly Go.Departure.lateStores }, { on := 19, ground := Go.Ground.textOnly Go.Departure.lateStoresUnsure }, { on := 20, ground := Go.Ground.phase }, { on := 21, ground := Go.Ground.phase }], guard := none }) (by kernel_rfl) rfl (fun K hK => ?_)
  go_simp
  refine hK.out _ _ ?_ ?_
  · exact fun h => absurd h (by decide)
  clear hK K
  try simp only [Act.put, List.setIfInBounds_toArray, List.set_cons_zero, List.set_cons_succ]
  refine Mk.Upto.one (i := 23) (o := { dst := none, op := Go.Op.store 5 (Go.Operand.tmp 128) (Go.Operand.tmp 118), type := 0, pos := "ref.go:46", after := #[{ on := 22, ground := Go.Ground.data }, { on := 11, ground := Go.Ground.data }, { on := 21, ground := Go.Ground.chain }, { on := 0, ground := Go.Ground.phase }, { on := 1, ground := Go.Ground.phase }, { on := 2, ground := Go.Ground.phase }, { on := 3, ground := Go.Ground.phase }, { on := 4, ground := Go.Ground.phase }, { on := 5, ground := Go.Ground.phase }, { on := 6, ground := Go.Ground.phase }, { on := 7, ground := Go.Ground.phase }, { on := 8, ground := Go.Ground.phase }, { on := 9, ground := Go.Ground.phase }, { on := 10, ground := Go.Ground.phase }, { on := 11, ground := Go.Ground.phase }, { on := 12, ground := Go.Ground.phase }, { on := 13, ground := Go.Ground.phase }, { on := 14, ground := Go.Ground.textOnly Go.Departure.lateStores }, { on := 15, ground := Go.Ground.textOnly Go.Departure.lateStores }, { on := 16, ground := Go.Ground.textOnly Go.Departure.lateStores }, { on := 17, ground := Go.Ground.textOnly Go.Departure.lateStores }, { on := 18, ground := Go.Ground.textOnly Go.Departure.lateStores }, { on := 19, ground := Go.Ground.textOnly Go.Departure.lateStoresUnsure }, { on := 20, ground := Go.Ground.phase }, { on := 21, ground := Go.Ground.phase }], guard := none }) (by kernel_rfl) rfl (fun K hK => ?_)
  go_simp
  refine hK.out _ _ ?_ ?_
  · exact fun h => absurd h (by decide)
  clear hK K
  try simp only [Act.put, List.setIfInBounds_toArray, List.set_cons_zero, List.set_cons_succ]
  refine Mk.Upto.one (i := 24) (o := { dst := some 129, op := Go.Op.fieldAddr 67 (Go.Operand.tmp 14) 2, type := 0, pos := "ref.go:46", after := #[{ on := 0, ground := Go.Ground.phase }, { on := 1, ground := Go.Ground.phase }, { on := 2, ground := Go.Ground.phase }, { on := 3, ground := Go.Ground.phase }, { on := 4, ground := Go.Ground.phase }, { on := 5, ground := Go.Ground.phase }, { on := 6, ground := Go.Ground.phase }, { on := 7, ground := Go.Ground.phase }, { on := 8, ground := Go.Ground.phase }, { on := 9, ground := Go.Ground.phase }, { on := 10, ground := Go.Ground.phase }, { on := 11, ground := Go.Ground.phase }, { on := 12, ground := Go.Ground.phase }, { on := 13, ground := Go.Ground.phase }, { on := 14, ground := Go.Ground.phase }, { on := 15, ground := Go.Ground.phase }, { on := 16, ground := Go.Ground.phase }, { on := 17, ground := Go.Ground.phase }, { on := 18, ground := Go.Ground.phase }, { on := 19, ground := Go.Ground.phase }, { on := 20, ground := Go.Ground.phase }, { on := 21, ground := Go.Ground.phase }, { on := 22, ground := Go.Ground.phase }, { on := 23, ground := Go.Ground.phase }], guard := none }) (by kernel_rfl) rfl (fun K hK => ?_)
  go_simp
  refine hK.out _ _ ?_ ?_
  · exact fun h => absurd h (by decide)
  clear hK K
  try simp only [Act.put, List.setIfInBounds_toArray, List.set_cons_zero, List.set_cons_succ]
  refine Mk.Upto.one (i := 25) (o := { dst := none, op := Go.Op.store 5 (Go.Operand.tmp 129) (Go.Operand.tmp 126), type := 0, pos := "ref.go:46", after := #[{ on := 24, ground := Go.Ground.data }, { on := 19, ground := Go.Ground.data }, { on := 23, ground := Go.Ground.chain }, { on := 0, ground := Go.Ground.phase }, { on := 1, ground := Go.Ground.phase }, { on := 2, ground := Go.Ground.phase }, { on := 3, ground := Go.Ground.phase }, { on := 4, ground := Go.Ground.phase }, { on := 5, ground := Go.Ground.phase }, { on := 6, ground := Go.Ground.phase }, { on := 7, ground := Go.Ground.phase }, { on := 8, ground := Go.Ground.phase }, { on := 9, ground := Go.Ground.phase }, { on := 10, ground := Go.Ground.phase }, { on := 11, ground := Go.Ground.phase }, { on := 12, ground := Go.Ground.phase }, { on := 13, ground := Go.Ground.phase }, { on := 14, ground := Go.Ground.phase }, { on := 15, ground := Go.Ground.phase }, { on := 16, ground := Go.Ground.phase }, { on := 17, ground := Go.Ground.phase }, { on := 18, ground := Go.Ground.phase }, { on := 19, ground := Go.Ground.phase }, { on := 20, ground := Go.Ground.phase }, { on := 21, ground := Go.Ground.phase }, { on := 22, ground := Go.Ground.phase }, { on := 23, ground := Go.Ground.phase }], guard := none }) (by kernel_rfl) rfl (fun K hK => ?_)
  go_simp
  refine hK.out _ _ ?_ ?_
  · exact fun h => absurd h (by decide)
  clear hK K
  try simp only [Act.put, List.setIfInBounds_toArray, List.set_cons_zero, List.set_cons_succ]
  refine Mk.Upto.done (by kernel_rfl) ?_ _
  have Z2 : ((((w3.setCell ⟨j2, 0, none⟩ (.int .u8 n0)).setCell ⟨j2, 1, none⟩ (.int .u8 n1)).setCell ⟨j2, 2, none⟩ (.int .u8 n2)).drew.drew).heap[j2]? = some (.cells #[.int .u8 n0, .int .u8 n1, .int .u8 n2, .int .u8 a] 67 (0, 0)) :=
    blk_set (blk_set (blk_set HB2.out 0 _) 1 _) 2 _
  have Z1 : ((((w3.setCell ⟨j2, 0, none⟩ (.int .u8 n0)).setCell ⟨j2, 1, none⟩ (.int .u8 n1)).setCell ⟨j2, 2, none⟩ (.int .u8 n2)).drew.drew).heap[j1]? = some (.cells #[.int .u8 0, .int .u8 0, .int .u8 0, .int .u8 0] 67 (0, 0)) :=
    blk_other (blk_other (blk_other HB1.out m1) m1) m1
  have HGZ := Lib.hid (show W.grownBy ((((w3.setCell ⟨j2, 0, none⟩ (.int .u8 n0)).setCell ⟨j2, 1, none⟩ (.int .u8 n1)).setCell ⟨j2, 2, none⟩ (.int .u8 n2)).drew.drew) none from gb_trans (gb_own (gb_own (gb_own HG3.out HJ.out.2 (gb_set _ _ _ _)) HJ.out.2 (gb_set _ _ _ _)) HJ.out.2 (gb_set _ _ _ _)) (gb_trans (gb_drew _ none) (gb_drew _ none)))
  have HM := Lib.hid (And.intro m1 m2)
  clear hHeld x20 x21 x22 x23 x10 x11 x12 x13 z20 z21 z22 z23 z10 z11 z12 z13 hl1 hl2 m1 m2
  generalize (((w3.setCell ⟨j2, 0, none⟩ (.int .u8 n0)).setCell ⟨j2, 1, none⟩ (.int .u8 n1)).setCell ⟨j2, 2, none⟩ (.int .u8 n2)).drew.drew = wz at Z2 Z1 HGZ ⊢
  have x20 := blk_cell Z2 0
  have x21 := blk_cell Z2 1
  have x22 := blk_cell Z2 2
  have x23 := blk_cell Z2 3
  have x10 := blk_cell Z1 0
  have x11 := blk_cell Z1 1
  have x12 := blk_cell Z1 2
  have x13 := blk_cell Z1 3
  simp only [List.getElem?_toArray, List.getElem?_cons_succ, List.getElem?_cons_zero] at x20 x21 x22 x23 x10 x11 x12 x13
  have z10 := blk_free Z1 0
  have z11 := blk_free Z1 1
  have z12 := blk_free Z1 2
  have z13 := blk_free Z1 3
  have hl1 := blk_lt Z1
  have hl2 := blk_lt Z2
  clear Z1 Z2 KA0 KA1 KA2 hd0 hd1 hd2 wd0 wd1 wd2 ws0 ws2 w0 w2 r0 r2 r3 r4 hs0 hs2 p1 p2 p3 t0' t2' x256
  go_wp2
  refine bodyPost_ret (v := .tuple #[.agg #[.int .u8 n0, .int .u8 n1, .int .u8 n2, .int .u8 a], .int .i64 1, .int .i64 2, .bool true]) (by simp only [results, Tryz.results31]; go_simp) rfl ⟨rfl, ?_⟩
  repeat (first | refine gb_own ?_ HJ.out.1 (gb_set _ _ _ _))
  exact HGZ.out

end Go.Proofs.YtmhghkgcfgacdaaGreat.Qo
