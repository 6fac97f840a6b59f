/- Texts of one kind, one behind the other: Ras2, Ras3, Ras4. -/
import Derived.BigQuiet
import Derived.Deep.LoopGhost
import Derived.Deep.RegionHeld3
import Derived.Deep.RegionWith
import Derived.Laws.ResultCell
import Derived.StillTailTactics
import Derived.Test.YtmhghkgcfgacdaaGreatG14
/- Package raster: a pixel is found, put and told. -/
namespace Go.Proofs.YtmhghkgcfgacdaaGreat.Ra
open Go.ChangeShapes Go.WideShapes Go.ChangeAt Go.RowKit
open Go.Proofs.YtmhghkgcfgacdaaGreat.Le Go.Proofs.YtmhghkgcfgacdaaGreat.Bu Go.Proofs.YtmhghkgcfgacdaaGreat.Nu
set_option linter.unusedVariables false

theorem Ro.turned {r l c g a b : Nat} {s : ByteArray} {w w' : World} {S : List Nat} (h : Ro r l c g a b s w) (k : Tn w w' S) (h1 : r ∉ S) (h2 : c ∉ S) (h3 : g ∉ S) : Ro r l c g a b s w' :=
  ⟨(k.block r h.lt h1).trans h.blk, ⟨(k.block c h.buf.lt h2).trans h.buf.blk, (k.block g h.buf.glt h3).trans h.buf.byt, h.buf.big, h.buf.bl, h.buf.bg, h.buf.gl⟩, h.sz, h.rl, h.rc, h.rg⟩

theorem open_calls (r l c g a b : Nat) (s : ByteArray) (w : World) (h : Ro r l c g a b s w) (h0 : 0 < s.size) :
    Calls Tryz.prog 110 #[.pointer (some ⟨r, 0, none⟩)] w fun e w' => e = .returned (.bool true) ∧ w = w' := by
  have c3 : w.cell? ⟨r, 3, none⟩ = some (.pointer (some ⟨c, 0, none⟩)) := blk_cell h.blk 3
  have K := Lib.hid (len_calls c l g true s w (.inl ⟨rfl, h.buf⟩))
  have big := h.buf.big
  clear h
  go_enter Tryz.func110, Tryz.ntmps110
  go_wp2_with fail
  refine K.out.mono ?_
  rintro e w' ⟨rfl, rfl⟩
  go_wp2
  go_ret
  exact ⟨rfl, rfl⟩

theorem place_yes (a b x y p : Nat) (w : World) (hx : x < a) (hy : y < b) (ha : a ≤ 16384) (hb : b ≤ 16384) (hp : y * a + x = p) :
    Calls Tryz.prog 111 #[.int .i64 a, .int .i64 b, .int .i64 x, .int .i64 y] w fun e w' => e = .returned (.tuple #[.int .i64 ((4 * p : Nat) : Int), .bool true]) ∧ w = w' := by
  have e1 : (y : Int) * (a : Int) + (x : Int) = (p : Int) := by rw [← hp, Int.natCast_add, Int.natCast_mul]
  have hle : y * a ≤ 16384 * 16384 := Nat.mul_le_mul (by omega) (by omega)
  have p0 : (0 : Int) ≤ (y : Int) * (a : Int) := Int.mul_nonneg (by omega) (by omega)
  have p1 : (y : Int) * (a : Int) ≤ 268435456 := by rw [← Int.natCast_mul]; omega
  have hpb : p ≤ 268451840 := by omega
  clear hp hle
  go_enter Tryz.func111, Tryz.ntmps111
  go_wp2
  go_ret2
  exact ⟨by go_num, rfl⟩

/-- No such pixel. -/
def badP (a b x y : Int) : Prop := x < 0 ∨ a ≤ x ∨ y < 0 ∨ b ≤ y

theorem place_no (a b x y : Int) (w : World) (h : badP a b x y) :
    Calls Tryz.prog 111 #[.int .i64 a, .int .i64 b, .int .i64 x, .int .i64 y] w fun e w' => e = .returned (.tuple #[.int .i64 0, .bool false]) ∧ w = w' := by
  unfold badP at h
  by_cases h0 : x < 0
  · clear h
    go_enter Tryz.func111, Tryz.ntmps111
    go_wp2
    go_ret2
    exact ⟨rfl, rfl⟩
  · by_cases h1 : a ≤ x
    · clear h
      go_enter Tryz.func111, Tryz.ntmps111
      go_wp2
      go_ret2
      exact ⟨rfl, rfl⟩
    · have h1' : x < a := by omega
      by_cases h2 : y < 0
      · clear h
        go_enter Tryz.func111, Tryz.ntmps111
        go_wp2
        go_ret2
        exact ⟨rfl, rfl⟩
      · have h3 : b ≤ y := by omega
        clear h
        go_enter Tryz.func111, Tryz.ntmps111
        go_wp2
        go_ret2
        exact ⟨rfl, rfl⟩

set_option maxRecDepth 100000 in
theorem find_yes (r l c g a b x y p : Nat) (s : ByteArray) (w : World) (h : Ro r l c g a b s w) (hx : x < a) (hy : y < b) (ha : a ≤ 16384) (hb : b ≤ 16384) (hp : y * a + x = p) :
    Calls Tryz.prog 104 #[.pointer (some ⟨r, 0, none⟩), .int .i64 x, .int .i64 y] w fun e w' => e = .returned (.tuple #[.int .i64 ((4 * p : Nat) : Int), .bool true]) ∧ w.grownBy w' none := by
  have c1 : w.cell? ⟨r, 1, none⟩ = some (.int .i64 a) := blk_cell h.blk 1
  have c2 : w.cell? ⟨r, 2, none⟩ = some (.int .i64 b) := blk_cell h.blk 2
  have hab : 1 ≤ a * b := Nat.mul_pos (by omega) (by omega)
  have K := Lib.hid (open_calls r l c g a b s w h (by rw [h.sz]; omega))
  have P := Lib.hid (fun w => place_yes a b x y p w hx hy ha hb hp)
  clear h hab hp
  go_enter Tryz.func104, Tryz.ntmps104
  go_wp2_with fail
  refine K.out.mono ?_
  rintro e w' ⟨rfl, rfl⟩
  go_wp2_with fail
  go_region_with (go_at_call 111; refine (P.out _).mono ?_; rintro e w' ⟨rfl, rfl⟩)
  all_goals
    go_wp2
    go_ret2
    exact ⟨rfl, gb_drew _ _⟩

/-- Four bytes. -/
def four (p q r t : UInt8) : ByteArray := ⟨#[p, q, r, t]⟩
theorem four_size (p q r t : UInt8) : (four p q r t).size = 4 := rfl
theorem bys_four (p q r t : UInt8) : bys (four p q r t) = #[.int .u8 (p.toNat : Int), .int .u8 (q.toNat : Int), .int .u8 (r.toNat : Int), .int .u8 (t.toNat : Int)] := rfl
theorem conv_four (p q r t : UInt8) (W : World) (k : Nat) (hb : W.heap[k]? = some (.cells #[.int .u8 (p.toNat : Int), .int .u8 (q.toNat : Int), .int .u8 (r.toNat : Int), .int .u8 (t.toNat : Int)] 5 (0, 0))) :
    (convert 25 9 (.slice (some ⟨k, 0, none⟩) 4 4)).run Tryz.prog W = .ok (.string (four p q r t)) W := by
  have hc : Lib.Bytes W k 0 (four p q r t) := by
    intro i hi
    rw [Nat.zero_add]
    rw [← bys_four] at hb
    exact (blk_cell hb i).trans (bys_at _ i hi)
  have h := Lib.run_convert_whole (P := Tryz.prog) W 25 5 9 und8 (by kernel_rfl) (by kernel_rfl) k 0 (four p q r t) hc 4
  rw [four_size] at h
  exact h

theorem Ro.put {r l c g a b : Nat} {s : ByteArray} {w w' : World} (h : Ro r l c g a b s w) (t : ByteArray) (i : Nat) (hi : i + t.size ≤ s.size) (B : BOpen c l g (putS s t i) w') (k : w.grownBy w' (some g)) : Ro r l c g a b (putS s t i) w' :=
  ⟨(k.block r h.lt (by simp; exact h.rg)).trans h.blk, B, by rw [putS_size _ _ _ hi]; exact h.sz, h.rl, h.rc, h.rg⟩

theorem gb3 (w : World) (O C : Obj) (r : Option Nat) : w.grownBy (((w.alloc O).alloc C).drew) r := gb_trans (gb_trans (World.grownBy_alloc _ _ _) (World.grownBy_alloc _ _ _)) (gb_drew _ _)

set_option maxRecDepth 100000 in
set_option maxHeartbeats 400000 in
theorem put_calls (r l c g a b i : Nat) (s : ByteArray) (p0 p1 p2 p3 : UInt8) (w : World) (h : Ro r l c g a b s w) (hi : i + 4 ≤ s.size) :
    Calls Tryz.prog 106 #[.pointer (some ⟨r, 0, none⟩), .int .i64 i, .agg #[.int .u8 (p0.toNat : Int), .int .u8 (p1.toNat : Int), .int .u8 (p2.toNat : Int), .int .u8 (p3.toNat : Int)]] w
      fun e w' => e = .returned (.tuple #[]) ∧ Ro r l c g a b (putS s (four p0 p1 p2 p3) i) w' ∧ w.grownBy w' (some g) := by
  have hlt := h.lt
  have c3 : w.cell? ⟨r, 3, none⟩ = some (.pointer (some ⟨c, 0, none⟩)) := blk_cell h.blk 3
  have hcv := conv_four p0 p1 p2 p3
  have P := fun w h => put_yes c l g s (four p0 p1 p2 p3) i w h (by rw [four_size]; exact hi)
  obtain ⟨z, hz⟩ : ∃ z, four p0 p1 p2 p3 = z := ⟨_, rfl⟩
  have hz4 : z.size = 4 := by rw [← hz]; rfl
  rw [hz] at hcv P ⊢
  have P' := Lib.hid P
  have H := Lib.hid h
  obtain ⟨x0, e0⟩ : ∃ x : Int, (p0.toNat : Int) = x := ⟨_, rfl⟩
  obtain ⟨x1, e1⟩ : ∃ x : Int, (p1.toNat : Int) = x := ⟨_, rfl⟩
  obtain ⟨x2, e2⟩ : ∃ x : Int, (p2.toNat : Int) = x := ⟨_, rfl⟩
  obtain ⟨x3, e3⟩ : ∃ x : Int, (p3.toNat : Int) = x := ⟨_, rfl⟩
  rw [e0, e1, e2, e3] at hcv ⊢
  have cv : ∀ w : World, (convert 25 9 (.slice (some ⟨w.heap.size, 0, none⟩) 4 4)).run Tryz.prog (w.alloc (.cells #[.int .u8 x0, .int .u8 x1, .int .u8 x2, .int .u8 x3] 5)) = .ok (.string z) (w.alloc (.cells #[.int .u8 x0, .int .u8 x1, .int .u8 x2, .int .u8 x3] 5)) := fun w => hcv _ _ blk_at
  have HF := Lib.hid (show ∀ (w2 w6 : World) (C : Obj), w.grownBy w2 none → BOpen c l g (putS s z i) w6 → ((w2.alloc C).drew).grownBy w6 (some g) → Ro r l c g a b (putS s z i) w6 ∧ w.grownBy w6 (some g) from
    fun w2 w6 C k BO kk => ⟨Ro.put (h.grown (gb_trans (gb_trans k (World.grownBy_alloc _ _ none)) (gb_drew _ none)) (by simp) (by simp) (by simp)) z i (by rw [hz4]; exact hi) BO kk, gb_trans (gb_trans (gb_trans (gb_any k _) (World.grownBy_alloc _ _ _)) (gb_drew _ _)) kk⟩)
  have glt := h.buf.glt
  have hrg := h.rg
  have B0 : (w.alloc (.cells #[.int .u8 x0, .int .u8 x1, .int .u8 x2, .int .u8 x3] 67)).heap[w.heap.size]? = some (.cells #[.int .u8 x0, .int .u8 x1, .int .u8 x2, .int .u8 x3] 67 (0, 0)) := blk_at
  have d0 := blk_cell B0 0
  have d1 := blk_cell B0 1
  have d2 := blk_cell B0 2
  have d3 := blk_cell B0 3
  have d4 : (w.alloc (.cells #[.int .u8 x0, .int .u8 x1, .int .u8 x2, .int .u8 x3] 67)).cell? ⟨r, 3, none⟩ = some (.pointer (some ⟨c, 0, none⟩)) := (World.grownBy_alloc w _ none).cell c3 (by simp)
  simp only [List.getElem?_toArray, List.getElem?_cons_succ, List.getElem?_cons_zero] at d0 d1 d2 d3
  clear P h hz e0 e1 e2 e3 B0
  go_enter Tryz.func106, Tryz.ntmps106
  go_wp2_with fail
  have K1 := Lib.hid (World.grownBy_alloc w (.cells #[.int .u8 x0, .int .u8 x1, .int .u8 x2, .int .u8 x3] 67) none)
  have hs1 := size_alloc w (.cells #[.int .u8 x0, .int .u8 x1, .int .u8 x2, .int .u8 x3] 67)
  generalize hw1 : w.alloc (.cells #[.int .u8 x0, .int .u8 x1, .int .u8 x2, .int .u8 x3] 67) = w1 at d0 d1 d2 d3 d4 K1 hs1 ⊢
  clear hw1
  have cv2 : (convert 25 9 (.slice (some ⟨w.heap.size + 1, 0, none⟩) 4 4)).run Tryz.prog ((w1.alloc (.cells #[.int .u8 x0, .int .u8 x1, .int .u8 x2, .int .u8 x3] 5)).drew) = .ok (.string z) ((w1.alloc (.cells #[.int .u8 x0, .int .u8 x1, .int .u8 x2, .int .u8 x3] 5)).drew) := hcv _ _ (by rw [← hs1]; exact blk_at)
  have glt1 : r < w1.heap.size := by omega
  have glt2 : w.heap.size < w1.heap.size := by omega
  have HS := Lib.hid (show ∀ (C : Obj) (w6 : World), ((w1.alloc C).drew).grownBy w6 (some g) →
      w6.cell? ⟨r, 3, none⟩ = some (.pointer (some ⟨c, 0, none⟩)) ∧ w6.cell? ⟨w.heap.size, 0, none⟩ = some (.int .u8 x0) ∧ w6.cell? ⟨w.heap.size, 1, none⟩ = some (.int .u8 x1) ∧ w6.cell? ⟨w.heap.size, 2, none⟩ = some (.int .u8 x2) ∧ w6.cell? ⟨w.heap.size, 3, none⟩ = some (.int .u8 x3) from
    fun C w6 kk => by
      have t := gb_trans (World.grownBy_alloc w1 C none) (gb_drew _ none)
      exact ⟨kk.cell (t.cell d4 (by simp)) (by simpa using hrg), kk.cell (t.cell d0 (by simp)) (by simp; omega), kk.cell (t.cell d1 (by simp)) (by simp; omega), kk.cell (t.cell d2 (by simp)) (by simp; omega), kk.cell (t.cell d3 (by simp)) (by simp; omega)⟩)
  clear hcv hrg
  refine wp_region_held_drew (S := (fun w' => w'.cell? ⟨r, 3, none⟩ = some (.pointer (some ⟨c, 0, none⟩)) ∧ w'.cell? ⟨w.heap.size, 0, none⟩ = some (.int .u8 x0) ∧ w'.cell? ⟨w.heap.size, 1, none⟩ = some (.int .u8 x1) ∧ w'.cell? ⟨w.heap.size, 2, none⟩ = some (.int .u8 x2) ∧ w'.cell? ⟨w.heap.size, 3, none⟩ = some (.int .u8 x3))) (by kernel_rfl) ?_ (fun hHeld => ?_)
  · try dsimp only
    go_keep
  refine wpAnyH_take (i := 0) (oi := { dst := some 6, op := Go.Op.move (Go.Operand.tmp 0), type := 54, pos := "raster.go:100", after := #[], guard := none }) (v := ?v0) rfl (by kernel_rfl) (by kernel_rfl) (by kernel_rfl) (fun _ _ _ h => h) (Or.inl ⟨by rfl, ?hy0⟩) (by assumption) ?rest0
  case hy0 =>
    intro w' hSw
    try dsimp only at hSw
    go_simp
    try with_reducible rfl
  try simp only [Act.put, List.setIfInBounds_toArray, List.set_cons_zero, List.set_cons_succ]
  refine wpAnyH_take (i := 1) (oi := { dst := some 7, op := Go.Op.nilCheck (Go.Operand.tmp 6), type := 0, pos := "raster.go:100", after := #[{ on := 0, ground := Go.Ground.data }], guard := none }) (v := ?v1) rfl (by kernel_rfl) (by kernel_rfl) (by kernel_rfl) (fun _ _ _ h => h) (Or.inl ⟨by rfl, ?hy1⟩) (by assumption) ?rest1
  case hy1 =>
    intro w' hSw
    try dsimp only at hSw
    go_simp
    try with_reducible rfl
  try simp only [Act.put, List.setIfInBounds_toArray, List.set_cons_zero, List.set_cons_succ]
  refine wpAnyH_take (i := 2) (oi := { dst := some 8, op := Go.Op.fieldAddr 114 (Go.Operand.tmp 7) 3, type := 0, pos := "raster.go:100", after := #[{ on := 1, ground := Go.Ground.data }], guard := none }) (v := ?v2) rfl (by kernel_rfl) (by kernel_rfl) (by kernel_rfl) (fun _ _ _ h => h) (Or.inl ⟨by rfl, ?hy2⟩) (by assumption) ?rest2
  case hy2 =>
    intro w' hSw
    try dsimp only at hSw
    go_simp
    try with_reducible rfl
  try simp only [Act.put, List.setIfInBounds_toArray, List.set_cons_zero, List.set_cons_succ]
  refine wpAnyH_take (i := 3) (oi := { dst := some 9, op := Go.Op.load 112 (Go.Operand.tmp 8), type := 112, pos := "raster.go:100", after := #[{ on := 2, ground := Go.Ground.data }], guard := none }) (v := ?v3) rfl (by kernel_rfl) (by kernel_rfl) (by kernel_rfl) (fun _ _ _ h => h) (Or.inl ⟨by rfl, ?hy3⟩) (by assumption) ?rest3
  case hy3 =>
    intro w' hSw
    try dsimp only at hSw
    go_simp
    try with_reducible rfl
  try simp only [Act.put, List.setIfInBounds_toArray, List.set_cons_zero, List.set_cons_succ]
  refine wpAnyH_take (i := 4) (oi := { dst := some 10, op := Go.Op.move (Go.Operand.tmp 1), type := 3, pos := "raster.go:100", after := #[], guard := none }) (v := ?v4) rfl (by kernel_rfl) (by kernel_rfl) (by kernel_rfl) (fun _ _ _ h => h) (Or.inl ⟨by rfl, ?hy4⟩) (by assumption) ?rest4
  case hy4 =>
    intro w' hSw
    try dsimp only at hSw
    go_simp
    try with_reducible rfl
  try simp only [Act.put, List.setIfInBounds_toArray, List.set_cons_zero, List.set_cons_succ]
  refine wpAnyH_take (i := 5) (oi := { dst := some 11, op := Go.Op.fieldAddr 67 (Go.Operand.tmp 5) 0, type := 0, pos := "raster.go:100", after := #[], guard := none }) (v := ?v5) rfl (by kernel_rfl) (by kernel_rfl) (by kernel_rfl) (fun _ _ _ h => h) (Or.inl ⟨by rfl, ?hy5⟩) (by assumption) ?rest5
  case hy5 =>
    intro w' hSw
    try dsimp only at hSw
    go_simp
    try with_reducible rfl
  try simp only [Act.put, List.setIfInBounds_toArray, List.set_cons_zero, List.set_cons_succ]
  refine wpAnyH_take (i := 6) (oi := { dst := some 12, op := Go.Op.load 5 (Go.Operand.tmp 11), type := 5, pos := "raster.go:100", after := #[{ on := 5, ground := Go.Ground.data }], guard := none }) (v := ?v6) rfl (by kernel_rfl) (by kernel_rfl) (by kernel_rfl) (fun _ _ _ h => h) (Or.inl ⟨by rfl, ?hy6⟩) (by assumption) ?rest6
  case hy6 =>
    intro w' hSw
    try dsimp only at hSw
    go_simp
    try with_reducible rfl
  try simp only [Act.put, List.setIfInBounds_toArray, List.set_cons_zero, List.set_cons_succ]
  refine wpAnyH_take (i := 7) (oi := { dst := some 13, op := Go.Op.fieldAddr 67 (Go.Operand.tmp 5) 1, type := 0, pos := "raster.go:100", after := #[], guard := none }) (v := ?v7) rfl (by kernel_rfl) (by kernel_rfl) (by kernel_rfl) (fun _ _ _ h => h) (Or.inl ⟨by rfl, ?hy7⟩) (by assumption) ?rest7
  case hy7 =>
    intro w' hSw
    try dsimp only at hSw
    go_simp
    try with_reducible rfl
  try simp only [Act.put, List.setIfInBounds_toArray, List.set_cons_zero, List.set_cons_succ]
  refine wpAnyH_take (i := 8) (oi := { dst := some 14, op := Go.Op.load 5 (Go.Operand.tmp 13), type := 5, pos := "raster.go:100", after := #[{ on := 7, ground := Go.Ground.data }], guard := none }) (v := ?v8) rfl (by kernel_rfl) (by kernel_rfl) (by kernel_rfl) (fun _ _ _ h => h) (Or.inl ⟨by rfl, ?hy8⟩) (by assumption) ?rest8
  case hy8 =>
    intro w' hSw
    try dsimp only at hSw
    go_simp
    try with_reducible rfl
  try simp only [Act.put, List.setIfInBounds_toArray, List.set_cons_zero, List.set_cons_succ]
  refine wpAnyH_take (i := 9) (oi := { dst := some 15, op := Go.Op.fieldAddr 67 (Go.Operand.tmp 5) 2, type := 0, pos := "raster.go:100", after := #[], guard := none }) (v := ?v9) rfl (by kernel_rfl) (by kernel_rfl) (by kernel_rfl) (fun _ _ _ h => h) (Or.inl ⟨by rfl, ?hy9⟩) (by assumption) ?rest9
  case hy9 =>
    intro w' hSw
    try dsimp only at hSw
    go_simp
    try with_reducible rfl
  try simp only [Act.put, List.setIfInBounds_toArray, List.set_cons_zero, List.set_cons_succ]
  refine wpAnyH_take (i := 10) (oi := { dst := some 16, op := Go.Op.load 5 (Go.Operand.tmp 15), type := 5, pos := "raster.go:100", after := #[{ on := 9, ground := Go.Ground.data }], guard := none }) (v := ?v10) rfl (by kernel_rfl) (by kernel_rfl) (by kernel_rfl) (fun _ _ _ h => h) (Or.inl ⟨by rfl, ?hy10⟩) (by assumption) ?rest10
  case hy10 =>
    intro w' hSw
    try dsimp only at hSw
    go_simp
    try with_reducible rfl
  try simp only [Act.put, List.setIfInBounds_toArray, List.set_cons_zero, List.set_cons_succ]
  refine wpAnyH_take (i := 11) (oi := { dst := some 17, op := Go.Op.fieldAddr 67 (Go.Operand.tmp 5) 3, type := 0, pos := "raster.go:100", after := #[], guard := none }) (v := ?v11) rfl (by kernel_rfl) (by kernel_rfl) (by kernel_rfl) (fun _ _ _ h => h) (Or.inl ⟨by rfl, ?hy11⟩) (by assumption) ?rest11
  case hy11 =>
    intro w' hSw
    try dsimp only at hSw
    go_simp
    try with_reducible rfl
  try simp only [Act.put, List.setIfInBounds_toArray, List.set_cons_zero, List.set_cons_succ]
  refine wpAnyH_take (i := 12) (oi := { dst := some 18, op := Go.Op.load 5 (Go.Operand.tmp 17), type := 5, pos := "raster.go:100", after := #[{ on := 11, ground := Go.Ground.data }], guard := none }) (v := ?v12) rfl (by kernel_rfl) (by kernel_rfl) (by kernel_rfl) (fun _ _ _ h => h) (Or.inl ⟨by rfl, ?hy12⟩) (by assumption) ?rest12
  case hy12 =>
    intro w' hSw
    try dsimp only at hSw
    go_simp
    try with_reducible rfl
  try simp only [Act.put, List.setIfInBounds_toArray, List.set_cons_zero, List.set_cons_succ]
  refine wpAnyH_ready (rs := [13]) (by kernel_rfl) (by simp) ?_
  refine AllReadyH.cons (o := { dst := some 19, op := Go.Op.buildSlice 25 4 #[(0, Go.Operand.tmp 12), (1, Go.Operand.tmp 14), (2, Go.Operand.tmp 16), (3, Go.Operand.tmp 18)], type := 25, pos := "raster.go:100", after := #[{ on := 6, ground := Go.Ground.data }, { on := 8, ground := Go.Ground.data }, { on := 10, ground := Go.Ground.data }, { on := 12, ground := Go.Ground.data }], guard := none }) rfl (fun K hK => ?_) AllReadyH.nil
  go_simp
  refine hK.out _ _ ?_ (fun hHeld2 => ?_)
  · try dsimp only
    go_keep
  clear hHeld
  have hHeld := hHeld2
  clear hK K hHeld2
  try simp only [Act.put, List.setIfInBounds_toArray, List.set_cons_zero, List.set_cons_succ]
  refine wpAnyH_ready (rs := [14]) (by kernel_rfl) (by simp) ?_
  refine AllReadyH.cons (o := { dst := some 20, op := Go.Op.convert 25 9 (Go.Operand.tmp 19), type := 9, pos := "raster.go:100", after := #[{ on := 13, ground := Go.Ground.data }], guard := none }) rfl (fun K hK => ?_) AllReadyH.nil
  go_simp
  refine hK.out _ _ ?_ (fun hHeld2 => ?_)
  · try dsimp only
    go_keep
  clear hHeld
  have hHeld := hHeld2
  clear hK K hHeld2
  try simp only [Act.put, List.setIfInBounds_toArray, List.set_cons_zero, List.set_cons_succ]
  refine wpAnyH_ready (rs := [15]) (by kernel_rfl) (by simp) ?_
  refine AllReadyH.cons (o := { dst := some 21, op := Go.Op.call { callee := Go.Callee.value (Go.Operand.func 112), args := #[Go.Operand.tmp 9, Go.Operand.tmp 10, Go.Operand.tmp 20], argTypes := #[112, 3, 9] }, type := 4, pos := "raster.go:100", after := #[{ on := 3, ground := Go.Ground.data }, { on := 4, ground := Go.Ground.data }, { on := 14, ground := Go.Ground.data }], guard := none }) rfl (fun K hK => ?_) AllReadyH.nil
  go_simp
  refine (P'.out _ (H.out.buf.grown (gb_trans (gb_trans K1.out (World.grownBy_alloc _ _ none)) (gb_drew _ none)) (by simp) (by simp))).mono ?_
  rintro e w6 ⟨rfl, BO, kk⟩
  have HK := Lib.hid (HF.out _ _ _ K1.out BO kk)
  obtain ⟨kk0, kk1, kk2, kk3, kk4⟩ := HS.out _ _ kk
  clear BO kk
  try go_wp2_with fail
  refine hK.out _ _ ?_ (fun hHeld2 => ?_)
  · try dsimp only
    go_keep
  clear hHeld
  have hHeld := hHeld2
  clear hK K hHeld2
  try simp only [Act.put, List.setIfInBounds_toArray, List.set_cons_zero, List.set_cons_succ]
  refine wpAnyH_done (by kernel_rfl) ?_ _
  all_goals
    go_wp2
    go_end0
    exact ⟨rfl, HK.out⟩

/-- A byte of a text, as a number. -/
def bt (s : ByteArray) (j : Nat) : Int := ((s.data.toList.getD j 0).toNat : Int)
theorem bt_ext (s z : ByteArray) (i k : Nat) (hz : s.extract i (i + 4) = z) (h : k < z.size) (hk : k < 4) : ((z[k]'h).toNat : Int) = bt s (i + k) := by
  have h1 := Go.Proofs.byte_at z k h
  have h3 : z.data.toList = (s.data.toList.drop i).take (i + 4 - i) := by rw [← hz, Lib.extract_data]
  rw [h3, List.getElem?_take_of_lt (by omega), List.getElem?_drop] at h1
  unfold bt
  rw [List.getD_eq_getElem?_getD, h1]
  rfl

end Go.Proofs.YtmhghkgcfgacdaaGreat.Ra

/- Package raster: Get, Set, and two pixels that change places. -/
namespace Go.Proofs.YtmhghkgcfgacdaaGreat.Ra
open Go.ChangeShapes Go.WideShapes Go.ChangeAt Go.RowKit
open Go.Proofs.YtmhghkgcfgacdaaGreat.Le Go.Proofs.YtmhghkgcfgacdaaGreat.Bu Go.Proofs.YtmhghkgcfgacdaaGreat.Nu
set_option linter.unusedVariables false

theorem p_lt {a b x y p : Nat} (hx : x < a) (hy : y < b) (hp : y * a + x = p) : 4 * p + 4 ≤ 4 * (a * b) := by
  have h1 : (y + 1) * a ≤ b * a := Nat.mul_le_mul_right a hy
  rw [Nat.add_mul, Nat.one_mul, Nat.mul_comm b a] at h1
  omega

theorem gb_new {a b c : World} {k : Nat} {r : Option Nat} (h : a.grownBy b r) (hk : a.heap.size ≤ k) (g : b.grownBy c (some k)) : a.grownBy c r :=
  ⟨g.os.trans h.os, g.tape.trans h.tape, g.output.trans h.output, Nat.le_trans h.size g.size,
    fun i hi hr => (g.block i (Nat.lt_of_lt_of_le hi h.size) (by simp; omega)).trans (h.block i hi hr)⟩

def zero4 : Array Value := #[.int .u8 0, .int .u8 0, .int .u8 0, .int .u8 0]

theorem put_ints (r l c g a b i : Nat) (s : ByteArray) (p0 p1 p2 p3 : UInt8) (x0 x1 x2 x3 : Int) (e0 : (p0.toNat : Int) = x0) (e1 : (p1.toNat : Int) = x1) (e2 : (p2.toNat : Int) = x2) (e3 : (p3.toNat : Int) = x3) (w : World) (h : Ro r l c g a b s w) (hi : i + 4 ≤ s.size) :
    Calls Tryz.prog 106 #[.pointer (some ⟨r, 0, none⟩), .int .i64 i, .agg #[.int .u8 x0, .int .u8 x1, .int .u8 x2, .int .u8 x3]] w
      fun e w' => e = .returned (.tuple #[]) ∧ Ro r l c g a b (putS s (four p0 p1 p2 p3) i) w' ∧ w.grownBy w' (some g) := by
  subst e0; subst e1; subst e2; subst e3
  exact put_calls r l c g a b i s p0 p1 p2 p3 w h hi

set_option maxRecDepth 100000 in
set_option maxHeartbeats 2000000 in
theorem set_px (r l c g a b x y p : Nat) (s : ByteArray) (q : St) (p0 p1 p2 p3 : UInt8) (w : World) (h : Ro r l c g a b s w) (hl : Led l q.ls w) (ok : q.Ok) (hq : (q.work 1).2 = true) (hx : x < a) (hy : y < b) (ha : a ≤ 16384) (hb : b ≤ 16384) (hp : y * a + x = p) :
    Calls Tryz.prog 96 #[.pointer (some ⟨r, 0, none⟩), .int .i64 x, .int .i64 y, .agg #[.int .u8 (p0.toNat : Int), .int .u8 (p1.toNat : Int), .int .u8 (p2.toNat : Int), .int .u8 (p3.toNat : Int)]] w
      fun e w' => e = .returned (.bool true) ∧ (Ro r l c g a b (putS s (four p0 p1 p2 p3) (4 * p)) w' ∧ Led l (q.work 1).1.ls w') ∧ Tn w w' [l, g] := by
  have hlt := h.lt
  have hll := hl.lt
  have hrl := h.rl
  have glt := h.buf.glt
  have hcl := h.buf.bl
  have hgl := h.buf.gl
  have F := fun w h => find_yes r l c g a b x y p s w h hx hy ha hb hp
  have hsz : 4 * p + 4 ≤ s.size := by have := p_lt hx hy hp; have := h.sz; omega
  have W := fun w h => work_calls l q 1 w h ok
  simp only [hq] at W
  obtain ⟨y1, hy1⟩ : ∃ y, (q.work 1).1 = y := ⟨_, rfl⟩
  simp only [hy1] at W ⊢
  obtain ⟨i, hi⟩ : ∃ i, 4 * p = i := ⟨_, rfl⟩
  simp only [hi] at F hsz ⊢
  obtain ⟨x0, e0⟩ : ∃ x : Int, (p0.toNat : Int) = x := ⟨_, rfl⟩
  obtain ⟨x1, e1⟩ : ∃ x : Int, (p1.toNat : Int) = x := ⟨_, rfl⟩
  obtain ⟨x2, e2⟩ : ∃ x : Int, (p2.toNat : Int) = x := ⟨_, rfl⟩
  obtain ⟨x3, e3⟩ : ∃ x : Int, (p3.toNat : Int) = x := ⟨_, rfl⟩
  have P := Lib.hid (fun w h => put_ints r l c g a b i s p0 p1 p2 p3 x0 x1 x2 x3 e0 e1 e2 e3 w h hsz)
  rw [e0, e1, e2, e3]
  have F' := Lib.hid F
  have W' := Lib.hid W
  have H := Lib.hid h
  have L := Lib.hid hl
  obtain ⟨t, ht⟩ : ∃ t, putS s (four p0 p1 p2 p3) i = t := ⟨_, rfl⟩
  simp only [ht] at P ⊢
  clear F W h hl hq hy1 hi e0 e1 e2 e3 hp ok ht
  go_enter Tryz.func96, Tryz.ntmps96
  go_wp2_with fail
  have B0 := Lib.hid (show (w.alloc (.cells #[.int .u8 x0, .int .u8 x1, .int .u8 x2, .int .u8 x3] 67)).heap[w.heap.size]? = some (.cells #[.int .u8 x0, .int .u8 x1, .int .u8 x2, .int .u8 x3] 67 (0, 0)) from blk_at)
  refine (F'.out _ (H.out.grown (World.grownBy_alloc _ _ none) (by simp) (by simp) (by simp))).mono ?_
  rintro e w1 ⟨rfl, g1⟩
  have B1 := Lib.hid ((g1.block _ (blk_lt B0.out) (by simp)).trans B0.out)
  have G1 := Lib.hid (gb_trans (World.grownBy_alloc _ _ none) g1)
  have H1 := Lib.hid (H.out.grown G1.out (by simp) (by simp) (by simp))
  have L1 := Lib.hid (L.out.grown G1.out (by simp))
  have c0 : w1.cell? ⟨r, 0, none⟩ = some (.pointer (some ⟨l, 0, none⟩)) := blk_cell H1.out.blk 0
  clear g1
  go_wp2_with fail
  refine (W'.out _ L1.out).mono ?_
  rintro e w2 ⟨rfl, L2, g2⟩
  have R2 := (g2.block _ (blk_lt B1.out) (by simp; omega)).trans B1.out
  have H2 := Lib.hid (H1.out.grown g2 (by simpa using hrl) (by simpa using hcl) (by simpa using hgl))
  have HL2 := Lib.hid L2
  have G2 := Lib.hid g2
  have d0 := blk_cell R2 0
  have d1 := blk_cell R2 1
  have d2 := blk_cell R2 2
  have d3 := blk_cell R2 3
  simp only [List.getElem?_toArray, List.getElem?_cons_succ, List.getElem?_cons_zero] at d0 d1 d2 d3
  clear L2 g2 R2
  go_wp2_with fail
  refine (P.out _ H2.out).mono ?_
  rintro e w3 ⟨rfl, H3, g3⟩
  have HR := Lib.hid H3
  have HL := Lib.hid (HL2.out.grown g3 (by simpa using Ne.symm hgl))
  have HT := Lib.hid (((Tn.gb G1.out (by simp) : Tn w w1 [l, g]).trans (Tn.gb G2.out (by simp))).trans (Tn.gb g3 (by simp)))
  clear H3 g3
  go_wp2
  go_ret
  exact ⟨rfl, ⟨HR.out, HL.out⟩, HT.out⟩

/-- A byte of a text. -/
def by8 (s : ByteArray) (j : Nat) : UInt8 := s.data.toList.getD j 0
def px (s : ByteArray) (j : Nat) : ByteArray := four (by8 s j) (by8 s (j + 1)) (by8 s (j + 2)) (by8 s (j + 3))
/-- Two pixels that have changed places. -/
def swp (s : ByteArray) (i k : Nat) : ByteArray := putS (putS s (px s k) i) (px s i) k

end Go.Proofs.YtmhghkgcfgacdaaGreat.Ra

/- Package raster: the columns of two pixels change places; the chapter's example. -/
namespace Go.Proofs.YtmhghkgcfgacdaaGreat.Ra
open Go.ChangeShapes Go.WideShapes Go.ChangeAt Go.RowKit
open Go.Proofs.YtmhghkgcfgacdaaGreat.Le Go.Proofs.YtmhghkgcfgacdaaGreat.Bu Go.Proofs.YtmhghkgcfgacdaaGreat.Nu
set_option linter.unusedVariables false

def q0 : St := { w := 2, h := 1, b := 8, s := 9, by_ := 0, pk := 0, st := 0, r := 0, a := 0 }
theorem q0_new : St.new 2 1 8 9 = q0 := rfl
theorem q0_ok : q0.Ok := ⟨by decide, by decide, by decide, by decide, by decide, by decide, by decide, by decide, by decide, by decide, by decide, by decide, by decide⟩
def q1 : St := { q0 with by_ := 8, pk := 8 }
theorem q1_ok : q1.Ok := ⟨by decide, by decide, by decide, by decide, by decide, by decide, by decide, by decide, by decide, by decide, by decide, by decide, by decide⟩
def q2 : St := { q1 with st := 1 }
theorem q2_ok : q2.Ok := ⟨by decide, by decide, by decide, by decide, by decide, by decide, by decide, by decide, by decide, by decide, by decide, by decide, by decide⟩

/-- The example's bytes, behind the pixel and the flip. -/
def s1 : ByteArray := putS (rep 0 8) (four 255 0 0 255) 0
theorem s1_flip : bt (swp s1 0 4) 4 = 255 ∧ bt (swp s1 0 4) 5 = 0 ∧ bt (swp s1 0 4) 6 = 0 ∧ bt (swp s1 0 4) 7 = 255 := by decide +kernel

end Go.Proofs.YtmhghkgcfgacdaaGreat.Ra
