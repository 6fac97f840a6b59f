/- Layer 10: a palette's Add where there is room, walked (written by wip/gen/pal_add.py). -/
import Derived.Test.YtljbhahdaepecaaPalJ
import Derived.Test.YtljbhahdaepecaaBuf2
namespace Go.Proofs.Ytljbhahdaepecaa.Pa
open Go.ChangeShapes Go.WideShapes Go.ChangeAt Go.RowKit
open Go.Proofs.Ytljbhahdaepecaa.Sc Go.Proofs.Ytljbhahdaepecaa.Le
set_option linter.unusedVariables false

/-- Four bytes. -/
def four (p q r t : UInt8) : ByteArray := ⟨#[p, q, r, t]⟩
theorem four_size (p q r t : UInt8) : (four p q r t).size = 4 := rfl
theorem bys_four (p q r t : UInt8) : Bu.bys (four p q r t) = #[.int .u8 (p.toNat : Int), .int .u8 (q.toNat : Int), .int .u8 (r.toNat : Int), .int .u8 (t.toNat : Int)] := rfl
theorem conv_four (p q r t : UInt8) (W : World) (k : Nat) (hb : W.heap[k]? = some (.cells #[.int .u8 (p.toNat : Int), .int .u8 (q.toNat : Int), .int .u8 (r.toNat : Int), .int .u8 (t.toNat : Int)] 5 (0, 0))) :
    (convert 85 9 (.slice (some ⟨k, 0, none⟩) 4 4)).run Try.prog W = .ok (.string (four p q r t)) W := by
  have hc : Lib.Bytes W k 0 (four p q r t) := by
    intro i hi
    rw [Nat.zero_add]
    rw [← bys_four] at hb
    exact (blk_cell hb i).trans (Bu.bys_at _ i hi)
  have h := Lib.run_convert_whole (P := Try.prog) W 85 5 9 Bu.und8 (by kernel_rfl) (by kernel_rfl) k 0 (four p q r t) hc 4
  rw [four_size] at h
  exact h

set_option maxRecDepth 100000 in
set_option maxHeartbeats 1000000 in
theorem add_yes (p b l g n most : Nat) (S : ByteArray) (p0 p1 p2 p3 : UInt8) (W : World) (h : Po p b l g n most S W) (hn : n < most) :
    Calls Try.prog 15 #[.pointer (some ⟨p, 0, none⟩), .agg #[.int .u8 (p0.toNat : Int), .int .u8 (p1.toNat : Int), .int .u8 (p2.toNat : Int), .int .u8 (p3.toNat : Int)]] W
      fun e w' => e = .returned (.bool true) ∧ Po p b l g (n + 1) most (Bu.putS S (four p0 p1 p2 p3) (4 * n)) w' ∧ Tn W w' [p, g] := by
  have hin : 4 * n + 4 ≤ S.size := by have := h.size; omega
  have KR := fun u (hu : Po p b l g n most S u) => room_calls p b l g n most S u hu
  have e0 : (((most : Int) - n) == 0) = false := by rw [beq_eq_false_iff_ne]; omega
  obtain ⟨rm, hrm⟩ : ∃ r, (most : Int) - n = r := ⟨_, rfl⟩
  simp only [hrm] at KR
  rw [hrm] at e0
  have hcv := conv_four p0 p1 p2 p3
  have P := fun w h => Bu.put_yes b l g S (four p0 p1 p2 p3) (4 * n) w h (by rw [four_size]; exact hin)
  have e4 : ((4 * n : Nat) : Int) = 4 * (n : Int) := by omega
  simp only [e4] at P
  obtain ⟨z, hz⟩ : ∃ z, four p0 p1 p2 p3 = z := ⟨_, rfl⟩
  have hz4 : z.size = 4 := by rw [← hz]; rfl
  rw [hz] at hcv P ⊢
  have nbig : (n : Int) ≤ 65536 := by have := h.big; omega
  have hle : n + 1 ≤ most := hn
  have P' := Lib.hid P
  have KR' := Lib.hid KR
  have H := Lib.hid h
  obtain ⟨x0, f0⟩ : ∃ x : Int, (p0.toNat : Int) = x := ⟨_, rfl⟩
  obtain ⟨x1, f1⟩ : ∃ x : Int, (p1.toNat : Int) = x := ⟨_, rfl⟩
  obtain ⟨x2, f2⟩ : ∃ x : Int, (p2.toNat : Int) = x := ⟨_, rfl⟩
  obtain ⟨x3, f3⟩ : ∃ x : Int, (p3.toNat : Int) = x := ⟨_, rfl⟩
  rw [f0, f1, f2, f3] at hcv ⊢
  have HCV := Lib.hid hcv
  have HF := Lib.hid (show ∀ (w2 w6 : World) (C : Obj), W.grownBy w2 none → Bu.BOpen b l g (Bu.putS S z (4 * n)) w6 → ((w2.alloc C).drew).grownBy w6 (some g) →
      Bu.BOpen b l g (Bu.putS S z (4 * n)) w6 ∧ w6.heap[p]? = some (.cells (palCells b n) 82 (0, 0)) ∧ W.grownBy w6 (some g) from
    fun w2 w6 C k BO kk => by
      have t := gb_trans (gb_any (gb_trans (gb_trans k (World.grownBy_alloc _ _ none)) (gb_drew _ none)) (some g)) kk
      exact ⟨BO, (t.block p (blk_lt h.blk) (by simpa using h.pg)).trans h.blk, t⟩)
  have HE := Lib.hid (show ∀ w6 : World, Bu.BOpen b l g (Bu.putS S z (4 * n)) w6 → w6.heap[p]? = some (.cells (palCells b n) 82 (0, 0)) → W.grownBy w6 (some g) →
      Po p b l g (n + 1) most (Bu.putS S z (4 * n)) (w6.setCell ⟨p, 1, none⟩ (.int .i64 ((n : Int) + 1))) ∧ Tn W (w6.setCell ⟨p, 1, none⟩ (.int .i64 ((n : Int) + 1))) [p, g] from
    fun w6 BO hp k => ⟨⟨(blk_set hp 1 _).trans rfl, BO.grown (gb_set _ _ _ _) (by simpa using fun e => h.pb e.symm) (by simpa using fun e => h.pg e.symm), by rw [Bu.putS_size _ _ _ (by rw [hz4]; exact hin)]; exact h.size, hle, h.big, h.pb, h.pl, h.pg⟩,
      (Tn.gb k (fun x e => by simp at e; simp [e])).trans (Tn.gb (gb_set _ _ _ _) (fun x e => by simp at e; simp [e]))⟩)
  have plt := blk_lt h.blk
  have glt := h.buf.glt
  have hpg := h.pg
  clear P KR h hz hrm hin e4 f0 f1 f2 f3 hle hcv
  go_enter Try.func15, Try.ntmps15
  go_wp2_with fail
  have HB0 := Lib.hid (blk_at (w := W) (o := .cells #[.int .u8 x0, .int .u8 x1, .int .u8 x2, .int .u8 x3] 24))
  have HA := Lib.hid (World.grownBy_alloc W (.cells #[.int .u8 x0, .int .u8 x1, .int .u8 x2, .int .u8 x3] 24) none)
  refine (KR'.out _ (H.out.grown HA.out (by simp) (by simp) (by simp))).mono ?_
  rintro e w2 ⟨rfl, g2⟩
  have B2 := old0 g2 HB0.out (blk_lt HB0.out) (by simp)
  have K1 := Lib.hid (gb_trans HA.out g2)
  have d0 : w2.cell? ⟨W.heap.size, 0, none⟩ = some (.int .u8 x0) := blk_cell B2 0
  have d1 : w2.cell? ⟨W.heap.size, 1, none⟩ = some (.int .u8 x1) := blk_cell B2 1
  have d2 : w2.cell? ⟨W.heap.size, 2, none⟩ = some (.int .u8 x2) := blk_cell B2 2
  have d3 : w2.cell? ⟨W.heap.size, 3, none⟩ = some (.int .u8 x3) := blk_cell B2 3
  have d4 : w2.cell? ⟨p, 0, none⟩ = some (.pointer (some ⟨b, 0, none⟩)) := K1.out.cell H.out.c0 (by simp)
  have d5 : w2.cell? ⟨p, 1, none⟩ = some (.int .i64 n) := K1.out.cell H.out.c1 (by simp)
  have glt2 : W.heap.size < w2.heap.size := blk_lt B2
  have glt1 : p < w2.heap.size := by omega
  have cv2 : (convert 85 9 (.slice (some ⟨w2.heap.size, 0, none⟩) 4 4)).run Try.prog ((w2.alloc (.cells #[.int .u8 x0, .int .u8 x1, .int .u8 x2, .int .u8 x3] 5)).drew) = .ok (.string z) ((w2.alloc (.cells #[.int .u8 x0, .int .u8 x1, .int .u8 x2, .int .u8 x3] 5)).drew) := HCV.out _ _ (blk_at (w := w2))
  have HS := Lib.hid (show ∀ (C : Obj) (w6 : World), ((w2.alloc C).drew).grownBy w6 (some g) →
      w6.cell? ⟨p, 0, none⟩ = some (.pointer (some ⟨b, 0, none⟩)) ∧ w6.cell? ⟨p, 1, none⟩ = some (.int .i64 n) ∧ w6.cell? ⟨W.heap.size, 0, none⟩ = some (.int .u8 x0) ∧ w6.cell? ⟨W.heap.size, 1, none⟩ = some (.int .u8 x1) ∧ w6.cell? ⟨W.heap.size, 2, none⟩ = some (.int .u8 x2) ∧ w6.cell? ⟨W.heap.size, 3, none⟩ = some (.int .u8 x3) from
    fun C w6 kk => by
      have t := gb_trans (World.grownBy_alloc w2 C none) (gb_drew _ none)
      exact ⟨kk.cell (t.cell d4 (by simp)) (by simpa using hpg), kk.cell (t.cell d5 (by simp)) (by simpa using hpg), kk.cell (t.cell d0 (by simp)) (by simp; omega), kk.cell (t.cell d1 (by simp)) (by simp; omega), kk.cell (t.cell d2 (by simp)) (by simp; omega), kk.cell (t.cell d3 (by simp)) (by simp; omega)⟩)
  have q4 : IntKind.i64.wrap (4 * (n : Int)) = 4 * (n : Int) := by rw [IntKind.wrap_i64]; omega
  clear g2 B2 hpg
  go_wp2_with fail
  refine wp_region_held_drew (S := (fun w' => w'.cell? ⟨p, 0, none⟩ = some (.pointer (some ⟨b, 0, none⟩)) ∧ w'.cell? ⟨p, 1, none⟩ = some (.int .i64 n) ∧ w'.cell? ⟨W.heap.size, 0, none⟩ = some (.int .u8 x0) ∧ w'.cell? ⟨W.heap.size, 1, none⟩ = some (.int .u8 x1) ∧ w'.cell? ⟨W.heap.size, 2, none⟩ = some (.int .u8 x2) ∧ w'.cell? ⟨W.heap.size, 3, none⟩ = some (.int .u8 x3))) (by kernel_rfl) ?_ (fun hHeld => ?_)
  · try dsimp only
    go_keep
  refine wpAnyH_take (i := 0) (oi := { dst := some 8, op := Go.Op.move (Go.Operand.tmp 0), type := 35, pos := "palette.go:59", after := #[], guard := none }) (v := ?v0) rfl (by kernel_rfl) (by kernel_rfl) (by kernel_rfl) (fun _ _ _ h => h) (Or.inl ⟨by rfl, ?hy0⟩) (by assumption) ?rest0
  case hy0 =>
    intro w' hSw
    try dsimp only at hSw
    go_simp
    try with_reducible rfl
  try simp only [Act.put, List.setIfInBounds_toArray, List.set_cons_zero, List.set_cons_succ]
  refine wpAnyH_take (i := 1) (oi := { dst := some 9, op := Go.Op.nilCheck (Go.Operand.tmp 8), type := 0, pos := "palette.go:59", after := #[{ on := 0, ground := Go.Ground.data }], guard := none }) (v := ?v1) rfl (by kernel_rfl) (by kernel_rfl) (by kernel_rfl) (fun _ _ _ h => h) (Or.inl ⟨by rfl, ?hy1⟩) (by assumption) ?rest1
  case hy1 =>
    intro w' hSw
    try dsimp only at hSw
    go_simp
    try with_reducible rfl
  try simp only [Act.put, List.setIfInBounds_toArray, List.set_cons_zero, List.set_cons_succ]
  refine wpAnyH_take (i := 2) (oi := { dst := some 10, op := Go.Op.fieldAddr 82 (Go.Operand.tmp 9) 0, type := 0, pos := "palette.go:59", after := #[{ on := 1, ground := Go.Ground.data }], guard := none }) (v := ?v2) rfl (by kernel_rfl) (by kernel_rfl) (by kernel_rfl) (fun _ _ _ h => h) (Or.inl ⟨by rfl, ?hy2⟩) (by assumption) ?rest2
  case hy2 =>
    intro w' hSw
    try dsimp only at hSw
    go_simp
    try with_reducible rfl
  try simp only [Act.put, List.setIfInBounds_toArray, List.set_cons_zero, List.set_cons_succ]
  refine wpAnyH_take (i := 3) (oi := { dst := some 11, op := Go.Op.load 78 (Go.Operand.tmp 10), type := 78, pos := "palette.go:59", after := #[{ on := 2, ground := Go.Ground.data }], guard := none }) (v := ?v3) rfl (by kernel_rfl) (by kernel_rfl) (by kernel_rfl) (fun _ _ _ h => h) (Or.inl ⟨by rfl, ?hy3⟩) (by assumption) ?rest3
  case hy3 =>
    intro w' hSw
    try dsimp only at hSw
    go_simp
    try with_reducible rfl
  try simp only [Act.put, List.setIfInBounds_toArray, List.set_cons_zero, List.set_cons_succ]
  refine wpAnyH_take (i := 4) (oi := { dst := some 12, op := Go.Op.move (Go.Operand.tmp 0), type := 35, pos := "palette.go:59", after := #[], guard := none }) (v := ?v4) rfl (by kernel_rfl) (by kernel_rfl) (by kernel_rfl) (fun _ _ _ h => h) (Or.inl ⟨by rfl, ?hy4⟩) (by assumption) ?rest4
  case hy4 =>
    intro w' hSw
    try dsimp only at hSw
    go_simp
    try with_reducible rfl
  try simp only [Act.put, List.setIfInBounds_toArray, List.set_cons_zero, List.set_cons_succ]
  refine wpAnyH_take (i := 5) (oi := { dst := some 13, op := Go.Op.nilCheck (Go.Operand.tmp 12), type := 0, pos := "palette.go:59", after := #[{ on := 4, ground := Go.Ground.data }], guard := none }) (v := ?v5) rfl (by kernel_rfl) (by kernel_rfl) (by kernel_rfl) (fun _ _ _ h => h) (Or.inl ⟨by rfl, ?hy5⟩) (by assumption) ?rest5
  case hy5 =>
    intro w' hSw
    try dsimp only at hSw
    go_simp
    try with_reducible rfl
  try simp only [Act.put, List.setIfInBounds_toArray, List.set_cons_zero, List.set_cons_succ]
  refine wpAnyH_take (i := 6) (oi := { dst := some 14, op := Go.Op.fieldAddr 82 (Go.Operand.tmp 13) 1, type := 0, pos := "palette.go:59", after := #[{ on := 5, ground := Go.Ground.data }], guard := none }) (v := ?v6) rfl (by kernel_rfl) (by kernel_rfl) (by kernel_rfl) (fun _ _ _ h => h) (Or.inl ⟨by rfl, ?hy6⟩) (by assumption) ?rest6
  case hy6 =>
    intro w' hSw
    try dsimp only at hSw
    go_simp
    try with_reducible rfl
  try simp only [Act.put, List.setIfInBounds_toArray, List.set_cons_zero, List.set_cons_succ]
  refine wpAnyH_take (i := 7) (oi := { dst := some 15, op := Go.Op.load 3 (Go.Operand.tmp 14), type := 3, pos := "palette.go:59", after := #[{ on := 6, ground := Go.Ground.data }], guard := none }) (v := ?v7) rfl (by kernel_rfl) (by kernel_rfl) (by kernel_rfl) (fun _ _ _ h => h) (Or.inl ⟨by rfl, ?hy7⟩) (by assumption) ?rest7
  case hy7 =>
    intro w' hSw
    try dsimp only at hSw
    go_simp
    try with_reducible rfl
  try simp only [Act.put, List.setIfInBounds_toArray, List.set_cons_zero, List.set_cons_succ]
  refine wpAnyH_take (i := 8) (oi := { dst := some 16, op := Go.Op.binOp Go.BinOp.mul 3 (Go.Operand.const (Go.Value.int Go.IntKind.i64 4)) (Go.Operand.tmp 15) 3, type := 3, pos := "palette.go:59", after := #[{ on := 7, ground := Go.Ground.data }], guard := none }) (v := ?v8) rfl (by kernel_rfl) (by kernel_rfl) (by kernel_rfl) (fun _ _ _ h => h) (Or.inl ⟨by rfl, ?hy8⟩) (by assumption) ?rest8
  case hy8 =>
    intro w' hSw
    try dsimp only at hSw
    go_simp
    try with_reducible rfl
  try simp only [Act.put, List.setIfInBounds_toArray, List.set_cons_zero, List.set_cons_succ]
  refine wpAnyH_take (i := 9) (oi := { dst := some 17, op := Go.Op.fieldAddr 24 (Go.Operand.tmp 3) 0, type := 0, pos := "palette.go:59", after := #[], guard := none }) (v := ?v9) rfl (by kernel_rfl) (by kernel_rfl) (by kernel_rfl) (fun _ _ _ h => h) (Or.inl ⟨by rfl, ?hy9⟩) (by assumption) ?rest9
  case hy9 =>
    intro w' hSw
    try dsimp only at hSw
    go_simp
    try with_reducible rfl
  try simp only [Act.put, List.setIfInBounds_toArray, List.set_cons_zero, List.set_cons_succ]
  refine wpAnyH_take (i := 10) (oi := { dst := some 18, op := Go.Op.load 5 (Go.Operand.tmp 17), type := 5, pos := "palette.go:59", after := #[{ on := 9, ground := Go.Ground.data }], guard := none }) (v := ?v10) rfl (by kernel_rfl) (by kernel_rfl) (by kernel_rfl) (fun _ _ _ h => h) (Or.inl ⟨by rfl, ?hy10⟩) (by assumption) ?rest10
  case hy10 =>
    intro w' hSw
    try dsimp only at hSw
    go_simp
    try with_reducible rfl
  try simp only [Act.put, List.setIfInBounds_toArray, List.set_cons_zero, List.set_cons_succ]
  refine wpAnyH_take (i := 11) (oi := { dst := some 19, op := Go.Op.fieldAddr 24 (Go.Operand.tmp 3) 1, type := 0, pos := "palette.go:59", after := #[], guard := none }) (v := ?v11) rfl (by kernel_rfl) (by kernel_rfl) (by kernel_rfl) (fun _ _ _ h => h) (Or.inl ⟨by rfl, ?hy11⟩) (by assumption) ?rest11
  case hy11 =>
    intro w' hSw
    try dsimp only at hSw
    go_simp
    try with_reducible rfl
  try simp only [Act.put, List.setIfInBounds_toArray, List.set_cons_zero, List.set_cons_succ]
  refine wpAnyH_take (i := 12) (oi := { dst := some 20, op := Go.Op.load 5 (Go.Operand.tmp 19), type := 5, pos := "palette.go:59", after := #[{ on := 11, ground := Go.Ground.data }], guard := none }) (v := ?v12) rfl (by kernel_rfl) (by kernel_rfl) (by kernel_rfl) (fun _ _ _ h => h) (Or.inl ⟨by rfl, ?hy12⟩) (by assumption) ?rest12
  case hy12 =>
    intro w' hSw
    try dsimp only at hSw
    go_simp
    try with_reducible rfl
  try simp only [Act.put, List.setIfInBounds_toArray, List.set_cons_zero, List.set_cons_succ]
  refine wpAnyH_take (i := 13) (oi := { dst := some 21, op := Go.Op.fieldAddr 24 (Go.Operand.tmp 3) 2, type := 0, pos := "palette.go:59", after := #[], guard := none }) (v := ?v13) rfl (by kernel_rfl) (by kernel_rfl) (by kernel_rfl) (fun _ _ _ h => h) (Or.inl ⟨by rfl, ?hy13⟩) (by assumption) ?rest13
  case hy13 =>
    intro w' hSw
    try dsimp only at hSw
    go_simp
    try with_reducible rfl
  try simp only [Act.put, List.setIfInBounds_toArray, List.set_cons_zero, List.set_cons_succ]
  refine wpAnyH_take (i := 14) (oi := { dst := some 22, op := Go.Op.load 5 (Go.Operand.tmp 21), type := 5, pos := "palette.go:59", after := #[{ on := 13, ground := Go.Ground.data }], guard := none }) (v := ?v14) rfl (by kernel_rfl) (by kernel_rfl) (by kernel_rfl) (fun _ _ _ h => h) (Or.inl ⟨by rfl, ?hy14⟩) (by assumption) ?rest14
  case hy14 =>
    intro w' hSw
    try dsimp only at hSw
    go_simp
    try with_reducible rfl
  try simp only [Act.put, List.setIfInBounds_toArray, List.set_cons_zero, List.set_cons_succ]
  refine wpAnyH_take (i := 15) (oi := { dst := some 23, op := Go.Op.fieldAddr 24 (Go.Operand.tmp 3) 3, type := 0, pos := "palette.go:59", after := #[], guard := none }) (v := ?v15) rfl (by kernel_rfl) (by kernel_rfl) (by kernel_rfl) (fun _ _ _ h => h) (Or.inl ⟨by rfl, ?hy15⟩) (by assumption) ?rest15
  case hy15 =>
    intro w' hSw
    try dsimp only at hSw
    go_simp
    try with_reducible rfl
  try simp only [Act.put, List.setIfInBounds_toArray, List.set_cons_zero, List.set_cons_succ]
  refine wpAnyH_take (i := 16) (oi := { dst := some 24, op := Go.Op.load 5 (Go.Operand.tmp 23), type := 5, pos := "palette.go:59", after := #[{ on := 15, ground := Go.Ground.data }], guard := none }) (v := ?v16) rfl (by kernel_rfl) (by kernel_rfl) (by kernel_rfl) (fun _ _ _ h => h) (Or.inl ⟨by rfl, ?hy16⟩) (by assumption) ?rest16
  case hy16 =>
    intro w' hSw
    try dsimp only at hSw
    go_simp
    try with_reducible rfl
  try simp only [Act.put, List.setIfInBounds_toArray, List.set_cons_zero, List.set_cons_succ]
  refine wpAnyH_ready (rs := [17]) (by kernel_rfl) (by simp) ?_
  refine AllReadyH.cons (o := { dst := some 25, op := Go.Op.buildSlice 85 4 #[(0, Go.Operand.tmp 18), (1, Go.Operand.tmp 20), (2, Go.Operand.tmp 22), (3, Go.Operand.tmp 24)], type := 85, pos := "palette.go:59", after := #[{ on := 10, ground := Go.Ground.data }, { on := 12, ground := Go.Ground.data }, { on := 14, ground := Go.Ground.data }, { on := 16, ground := Go.Ground.data }], guard := none }) rfl (fun K hK => ?_) AllReadyH.nil
  go_simp
  refine hK.out _ _ ?_ (fun hHeld2 => ?_)
  · try dsimp only
    go_keep
  clear hHeld
  have hHeld := hHeld2
  clear hK K hHeld2
  try simp only [Act.put, List.setIfInBounds_toArray, List.set_cons_zero, List.set_cons_succ]
  refine wpAnyH_ready (rs := [18]) (by kernel_rfl) (by simp) ?_
  refine AllReadyH.cons (o := { dst := some 26, op := Go.Op.convert 85 9 (Go.Operand.tmp 25), type := 9, pos := "palette.go:59", after := #[{ on := 17, ground := Go.Ground.data }], guard := none }) rfl (fun K hK => ?_) AllReadyH.nil
  go_simp
  refine hK.out _ _ ?_ (fun hHeld2 => ?_)
  · try dsimp only
    go_keep
  clear hHeld
  have hHeld := hHeld2
  clear hK K hHeld2
  try simp only [Act.put, List.setIfInBounds_toArray, List.set_cons_zero, List.set_cons_succ]
  refine wpAnyH_ready (rs := [19]) (by kernel_rfl) (by simp) ?_
  refine AllReadyH.cons (o := { dst := some 27, op := Go.Op.call { callee := Go.Callee.value (Go.Operand.func 29), args := #[Go.Operand.tmp 11, Go.Operand.tmp 16, Go.Operand.tmp 26], argTypes := #[78, 3, 9] }, type := 4, pos := "palette.go:59", after := #[{ on := 3, ground := Go.Ground.data }, { on := 8, ground := Go.Ground.data }, { on := 18, ground := Go.Ground.data }], guard := none }) rfl (fun K hK => ?_) AllReadyH.nil
  go_simp
  refine (P'.out _ (H.out.buf.grown (gb_trans (gb_trans K1.out (World.grownBy_alloc _ _ none)) (gb_drew _ none)) (by simp) (by simp))).mono ?_
  rintro e w6 ⟨rfl, BO, kk⟩
  have HK := Lib.hid (HF.out _ _ _ K1.out BO kk)
  obtain ⟨kk0, kk1, kk2, kk3, kk4, kk5⟩ := HS.out _ _ kk
  clear BO kk
  try go_wp2_with fail
  refine hK.out _ _ ?_ (fun hHeld2 => ?_)
  · try dsimp only
    go_keep
  clear hHeld
  have hHeld := hHeld2
  clear hK K hHeld2
  try simp only [Act.put, List.setIfInBounds_toArray, List.set_cons_zero, List.set_cons_succ]
  refine wpAnyH_done (by kernel_rfl) ?_ _
  all_goals
    have hpf := blk_free HK.out.2.1 1
    go_wp2
    go_ret
    exact ⟨rfl, HE.out _ HK.out.1 HK.out.2.1 HK.out.2.2⟩

end Go.Proofs.Ytljbhahdaepecaa.Pa
