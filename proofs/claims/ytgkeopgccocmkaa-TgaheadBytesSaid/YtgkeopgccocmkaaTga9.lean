/- The law of layer 16: same, the chapter's example, the law. -/
import Derived.Test.YtgkeopgccocmkaaTga8
import Derived.Test.YtgkeopgccocmkaaTga6
namespace Go.Proofs.Ytgkeopgccocmkaa.Tg
open Go.ChangeShapes Go.WideShapes Go.ChangeAt Go.RowKit
open Go.Proofs.Ytgkeopgccocmkaa.Le Go.Proofs.Ytgkeopgccocmkaa.Sr
set_option linter.unusedVariables false

set_option maxRecDepth 100000 in
set_option maxHeartbeats 4000000 in
theorem same_yes (n0 n2 n3 n4 n5 n6 n7 n8 n9 k p : Int) (mp lf tp : Bool) (W : World) :
    Calls Try.prog 8 #[.agg #[.int .i64 n0, .bool mp, .int .i64 n2, .int .i64 n3, .int .i64 n4, .int .i64 n5, .int .i64 n6, .int .i64 n7, .int .i64 n8, .int .i64 n9, .bool lf, .bool tp], .agg #[.int .i64 n0, .int .i64 (if mp then 1 else 0), .int .i64 n2, .int .i64 n3, .int .i64 n4, .int .i64 n5, .int .i64 n6, .int .i64 n7, .int .i64 n8, .int .i64 n9, .bool lf, .bool tp, .int .i64 k, .int .i64 p]] W
      fun e w' => e = .returned (.bool true) ∧ W.grownBy w' none := by
  cases mp
  · simp only [Bool.false_eq_true, if_false]
    go_enter Try.func8, Try.ntmps8
    go_wp2
    go_ret
    exact ⟨rfl, gb_trans (World.grownBy_alloc _ _ _) (World.grownBy_alloc _ _ _)⟩
  · simp only [if_true]
    go_enter Try.func8, Try.ntmps8
    go_wp2
    go_ret
    exact ⟨rfl, gb_trans (World.grownBy_alloc _ _ _) (World.grownBy_alloc _ _ _)⟩

def zs18 : ByteArray := ⟨#[0, 0, 0, 0, 0, 0, 0, 0, 0, 0, 0, 0, 0, 0, 0, 0, 0, 0]⟩
theorem conv0 {c : Nat} {w : World} (hb : w.heap[c]? = some (.cells #[.int .u8 0, .int .u8 0, .int .u8 0, .int .u8 0, .int .u8 0, .int .u8 0, .int .u8 0, .int .u8 0, .int .u8 0, .int .u8 0, .int .u8 0, .int .u8 0, .int .u8 0, .int .u8 0, .int .u8 0, .int .u8 0, .int .u8 0, .int .u8 0] 5 (0, 0))) :
    (convert 45 9 (.slice (some ⟨c, 0, none⟩) 18 18)).run Try.prog w = .ok (.string zs18) w := by
  have hc : Lib.Bytes w c 0 zs18 := by
    intro i hi
    have := blk_cell hb (0 + i)
    rw [this]
    have hi' : i < 18 := hi
    obtain rfl | rfl | rfl | rfl | rfl | rfl | rfl | rfl | rfl | rfl | rfl | rfl | rfl | rfl | rfl | rfl | rfl | rfl : i = 0 ∨ i = 1 ∨ i = 2 ∨ i = 3 ∨ i = 4 ∨ i = 5 ∨ i = 6 ∨ i = 7 ∨ i = 8 ∨ i = 9 ∨ i = 10 ∨ i = 11 ∨ i = 12 ∨ i = 13 ∨ i = 14 ∨ i = 15 ∨ i = 16 ∨ i = 17 := by omega
    all_goals rfl
  exact Lib.run_convert_whole (P := Try.prog) w 45 5 9 (by kernel_rfl) (by kernel_rfl) (by kernel_rfl) c 0 zs18 hc 18
theorem zs18_no : ck zs18 0 = false := by decide
theorem zs18_ck : Ck zs18 1 := ⟨by decide, by decide, fun j hj => by
  have : j = 0 := by omega
  rw [this]
  exact zs18_no⟩

set_option maxRecDepth 100000 in
set_option maxHeartbeats 4000000 in
theorem awake_calls (W : World) : Calls Try.prog 6 #[] W fun e w' => e = .returned (.bool true) ∧ W.grownBy w' none := by
  have HS := Lib.hid (show zs18 = ⟨#[0, 0, 0, 0, 0, 0, 0, 0, 0, 0, 0, 0, 0, 0, 0, 0, 0, 0]⟩ from rfl)
  go_enter Try.func6, Try.ntmps6
  go_wp2_with fail
  refine wp_region_held_drew (S := fun _ => True) (by kernel_rfl) ?_ (fun hHeld => ?_)
  · first | exact trivial | go_keep
  refine wpAnyH_take (i := 0) (oi := { dst := some 6, op := Go.Op.build 44 #[(3, Go.Operand.const (Go.Value.int Go.IntKind.i64 9))], type := 44, pos := "law.go:14", after := #[], guard := none }) (v := ?v0_1) rfl (by kernel_rfl) (by kernel_rfl) (by kernel_rfl) (fun _ _ _ h => h) (Or.inl ⟨by rfl, ?hy0_1⟩) (by assumption) ?rest0_1
  case hy0_1 =>
    intro w' hSw
    try dsimp only at hSw
    go_simp
    try with_reducible rfl
  try simp only [Act.put, List.setIfInBounds_toArray, List.set_cons_zero, List.set_cons_succ]
  refine wpAnyH_ready (rs := [1, 2]) (by kernel_rfl) (by simp) ?_
  refine AllReadyH.cons (o := { dst := some 7, op := Go.Op.call { callee := Go.Callee.value (Go.Operand.func 13), args := #[Go.Operand.tmp 6], argTypes := #[44] }, type := 41, pos := "law.go:14", after := #[{ on := 0, ground := Go.Ground.data }], guard := none }) rfl (fun K hK => ?_) ?_
  · go_simp
    refine (wnew_calls 9 (by decide) _).mono ?_
    rintro e w1 ⟨l, rfl, L1, g1, hl⟩
    have HL1 := Lib.hid L1
    have hlw := L1.lt
    have HG1 := Lib.hid g1
    clear L1 g1
    try go_wp2_with fail
    refine hK.out _ _ ?_ (fun hHeld2 => ?_)
    · first | exact trivial | go_keep
    clear hHeld
    have hHeld := hHeld2
    clear hK K hHeld2
    try simp only [Act.put, List.setIfInBounds_toArray, List.set_cons_zero, List.set_cons_succ]
    refine wpAnyH_ready (rs := [2]) (by kernel_rfl) (by simp) ?_
    refine AllReadyH.cons (o := { dst := some 8, op := Go.Op.makeSlice 45 (Go.Operand.const (Go.Value.int Go.IntKind.i64 18)) (Go.Operand.const (Go.Value.int Go.IntKind.i64 18)), type := 45, pos := "law.go:14", after := #[], guard := none }) rfl (fun K hK => ?_) AllReadyH.nil
    go_simp
    refine hK.out _ _ ?_ (fun hHeld2 => ?_)
    · first | exact trivial | go_keep
    clear hHeld
    have hHeld := hHeld2
    clear hK K hHeld2
    try simp only [Act.put, List.setIfInBounds_toArray, List.set_cons_zero, List.set_cons_succ]
    refine wpAnyH_ready (rs := [3]) (by kernel_rfl) (by simp) ?_
    refine AllReadyH.cons (o := { dst := some 9, op := Go.Op.convert 45 9 (Go.Operand.tmp 8), type := 9, pos := "law.go:14", after := #[{ on := 2, ground := Go.Ground.data }], guard := none }) rfl (fun K hK => ?_) AllReadyH.nil
    go_simp
    rw [show (IntKind.i64.wrap 18).toNat = 18 from rfl, conv0 (push_at _ _ _ (by kernel_rfl))]
    go_simp
    refine hK.out _ _ ?_ (fun hHeld2 => ?_)
    · first | exact trivial | go_keep
    clear hHeld
    have hHeld := hHeld2
    clear hK K hHeld2
    try simp only [Act.put, List.setIfInBounds_toArray, List.set_cons_zero, List.set_cons_succ]
    refine wpAnyH_ready (rs := [4]) (by kernel_rfl) (by simp) ?_
    refine AllReadyH.cons (o := { dst := some 10, op := Go.Op.call { callee := Go.Callee.value (Go.Operand.func 12), args := #[Go.Operand.tmp 7, Go.Operand.tmp 9], argTypes := #[41, 9] }, type := 39, pos := "law.go:14", after := #[{ on := 1, ground := Go.Ground.data }, { on := 3, ground := Go.Ground.data }, { on := 1, ground := Go.Ground.chain }], guard := none }) rfl (fun K hK => ?_) AllReadyH.nil
    go_simp
    refine (snew_calls l zs18 _ (by decide)).mono ?_
    rintro e w2 ⟨c, rfl, S2, g2, hc⟩
    have HG2 := Lib.hid (show W.grownBy w2 none from by first | exact gb_trans (gb_trans (gb_drew _ _) (gb_trans HG1.out (World.grownBy_alloc _ _ none))) g2 | exact gb_trans (gb_trans HG1.out (World.grownBy_alloc _ _ none)) g2)
    have HL2 := Lib.hid ((HL1.out.alloc _).grown g2 (by simp))
    have HS2 := Lib.hid (S2 (Nat.lt_of_lt_of_le hlw (World.grownBy_alloc _ _ none).size))
    have hl' : W.heap.size ≤ l := hl
    have hc' : W.heap.size ≤ c := by first | exact Nat.le_trans (gb_trans (gb_drew W none) (gb_trans HG1.out (World.grownBy_alloc _ _ none))).size hc | exact Nat.le_trans (gb_trans HG1.out (World.grownBy_alloc _ _ none)).size hc
    clear S2 g2 hc
    try go_wp2_with fail
    refine hK.out _ _ ?_ (fun hHeld2 => ?_)
    · first | exact trivial | go_keep
    clear hHeld
    have hHeld := hHeld2
    clear hK K hHeld2
    try simp only [Act.put, List.setIfInBounds_toArray, List.set_cons_zero, List.set_cons_succ]
    refine wpAnyH_take (i := 5) (oi := { dst := some 5, op := Go.Op.move (Go.Operand.tmp 10), type := 39, pos := "law.go:14", after := #[{ on := 4, ground := Go.Ground.data }], guard := none }) (v := ?v5_2) rfl (by kernel_rfl) (by kernel_rfl) (by kernel_rfl) (fun _ _ _ h => h) (Or.inl ⟨by rfl, ?hy5_2⟩) (by assumption) ?rest5_2
    case hy5_2 =>
      intro w' hSw
      try dsimp only at hSw
      go_simp
      try with_reducible rfl
    try simp only [Act.put, List.setIfInBounds_toArray, List.set_cons_zero, List.set_cons_succ]
    refine wpAnyH_take (i := 6) (oi := { dst := some 11, op := Go.Op.extract (Go.Operand.tmp 5) 0, type := 38, pos := "law.go:14", after := #[{ on := 5, ground := Go.Ground.data }], guard := none }) (v := ?v6_3) rfl (by kernel_rfl) (by kernel_rfl) (by kernel_rfl) (fun _ _ _ h => h) (Or.inl ⟨by rfl, ?hy6_3⟩) (by assumption) ?rest6_3
    case hy6_3 =>
      intro w' hSw
      try dsimp only at hSw
      go_simp
      try with_reducible rfl
    try simp only [Act.put, List.setIfInBounds_toArray, List.set_cons_zero, List.set_cons_succ]
    refine wpAnyH_take (i := 7) (oi := { dst := some 12, op := Go.Op.extract (Go.Operand.tmp 5) 1, type := 24, pos := "law.go:14", after := #[{ on := 5, ground := Go.Ground.data }, { on := 8, ground := Go.Ground.gcOnly Go.Departure.lateStores }], guard := none }) (v := ?v7_4) rfl (by kernel_rfl) (by kernel_rfl) (by kernel_rfl) (fun _ _ _ h => h) (Or.inl ⟨by rfl, ?hy7_4⟩) (by assumption) ?rest7_4
    case hy7_4 =>
      intro w' hSw
      try dsimp only at hSw
      go_simp
      try with_reducible rfl
    try simp only [Act.put, List.setIfInBounds_toArray, List.set_cons_zero, List.set_cons_succ]
    refine wpAnyH_take (i := 8) (oi := { dst := some 1, op := Go.Op.assign (Go.Operand.tmp 11), type := 38, pos := "law.go:14", after := #[{ on := 6, ground := Go.Ground.data }, { on := 4, ground := Go.Ground.chain }, { on := 0, ground := Go.Ground.phase }, { on := 1, ground := Go.Ground.phase }, { on := 2, ground := Go.Ground.phase }, { on := 3, ground := Go.Ground.phase }, { on := 4, ground := Go.Ground.phase }, { on := 5, ground := Go.Ground.phase }, { on := 6, ground := Go.Ground.phase }, { on := 7, ground := Go.Ground.textOnly Go.Departure.lateStores }], guard := none }) (v := ?v8_5) rfl (by kernel_rfl) (by kernel_rfl) (by kernel_rfl) (fun _ _ _ h => h) (Or.inl ⟨by rfl, ?hy8_5⟩) (by assumption) ?rest8_5
    case hy8_5 =>
      intro w' hSw
      try dsimp only at hSw
      go_simp
      try with_reducible rfl
    try simp only [Act.put, List.setIfInBounds_toArray, List.set_cons_zero, List.set_cons_succ]
    refine wpAnyH_take (i := 9) (oi := { dst := some 2, op := Go.Op.assign (Go.Operand.tmp 12), type := 24, pos := "law.go:14", after := #[{ on := 7, ground := Go.Ground.data }, { on := 8, ground := Go.Ground.chain }, { on := 0, ground := Go.Ground.phase }, { on := 1, ground := Go.Ground.phase }, { on := 2, ground := Go.Ground.phase }, { on := 3, ground := Go.Ground.phase }, { on := 4, ground := Go.Ground.phase }, { on := 5, ground := Go.Ground.phase }, { on := 6, ground := Go.Ground.phase }, { on := 7, ground := Go.Ground.phase }, { on := 8, ground := Go.Ground.phase }], guard := none }) (v := ?v9_6) rfl (by kernel_rfl) (by kernel_rfl) (by kernel_rfl) (fun _ _ _ h => h) (Or.inl ⟨by rfl, ?hy9_6⟩) (by assumption) ?rest9_6
    case hy9_6 =>
      intro w' hSw
      try dsimp only at hSw
      go_simp
      try with_reducible rfl
    try simp only [Act.put, List.setIfInBounds_toArray, List.set_cons_zero, List.set_cons_succ]
    refine wpAnyH_done (by kernel_rfl) ?_ _
    have KR := Lib.hid (thead_bad c l zs18 zs18 0 0 18 1 (LW 9 0) w2 HS2.out HL2.out (LW_ok (by decide) (by decide) (by decide)) (LW_rd (by decide) (by decide) (by decide)) (by decide) (by decide) zs18_ck (by decide))
    go_wp2_with fail
    refine KR.out.mono ?_
    rintro e w3 ⟨rfl, _, t3⟩
    have HG3 := Lib.hid (Tn.own HG2.out t3 (by intro x hx; simp at hx; omega))
    clear t3
    go_wp2
    go_ret
    exact ⟨rfl, gb_trans HG3.out (gb_trans (World.grownBy_alloc _ _ _) (World.grownBy_alloc _ _ _))⟩
  refine AllReadyH.cons (o := { dst := some 8, op := Go.Op.makeSlice 45 (Go.Operand.const (Go.Value.int Go.IntKind.i64 18)) (Go.Operand.const (Go.Value.int Go.IntKind.i64 18)), type := 45, pos := "law.go:14", after := #[], guard := none }) rfl (fun K hK => ?_) AllReadyH.nil
  go_simp
  refine hK.out _ _ ?_ (fun hHeld2 => ?_)
  · first | exact trivial | go_keep
  clear hHeld
  have hHeld := hHeld2
  clear hK K hHeld2
  try simp only [Act.put, List.setIfInBounds_toArray, List.set_cons_zero, List.set_cons_succ]
  refine wpAnyH_ready (rs := [1, 3]) (by kernel_rfl) (by simp) ?_
  refine AllReadyH.cons (o := { dst := some 7, op := Go.Op.call { callee := Go.Callee.value (Go.Operand.func 13), args := #[Go.Operand.tmp 6], argTypes := #[44] }, type := 41, pos := "law.go:14", after := #[{ on := 0, ground := Go.Ground.data }], guard := none }) rfl (fun K hK => ?_) ?_
  · go_simp
    refine (wnew_calls 9 (by decide) _).mono ?_
    rintro e w1 ⟨l, rfl, L1, g1, hl⟩
    have HL1 := Lib.hid L1
    have hlw := L1.lt
    have HBK := Lib.hid (show w1.heap[W.heap.size]? = some (.cells #[.int .u8 0, .int .u8 0, .int .u8 0, .int .u8 0, .int .u8 0, .int .u8 0, .int .u8 0, .int .u8 0, .int .u8 0, .int .u8 0, .int .u8 0, .int .u8 0, .int .u8 0, .int .u8 0, .int .u8 0, .int .u8 0, .int .u8 0, .int .u8 0] 5 (0, 0)) from (old1 g1 (by simp)).trans (congrArg some (show _ = Obj.cells #[.int .u8 0, .int .u8 0, .int .u8 0, .int .u8 0, .int .u8 0, .int .u8 0, .int .u8 0, .int .u8 0, .int .u8 0, .int .u8 0, .int .u8 0, .int .u8 0, .int .u8 0, .int .u8 0, .int .u8 0, .int .u8 0, .int .u8 0, .int .u8 0] 5 (0, 0) from by kernel_rfl)))
    have HG1 := Lib.hid g1
    clear L1 g1
    try go_wp2_with fail
    refine hK.out _ _ ?_ (fun hHeld2 => ?_)
    · first | exact trivial | go_keep
    clear hHeld
    have hHeld := hHeld2
    clear hK K hHeld2
    try simp only [Act.put, List.setIfInBounds_toArray, List.set_cons_zero, List.set_cons_succ]
    refine wpAnyH_ready (rs := [3]) (by kernel_rfl) (by simp) ?_
    refine AllReadyH.cons (o := { dst := some 9, op := Go.Op.convert 45 9 (Go.Operand.tmp 8), type := 9, pos := "law.go:14", after := #[{ on := 2, ground := Go.Ground.data }], guard := none }) rfl (fun K hK => ?_) AllReadyH.nil
    go_simp
    rw [show (IntKind.i64.wrap 18).toNat = 18 from rfl, conv0 (HBK.out)]
    go_simp
    refine hK.out _ _ ?_ (fun hHeld2 => ?_)
    · first | exact trivial | go_keep
    clear hHeld
    have hHeld := hHeld2
    clear hK K hHeld2
    try simp only [Act.put, List.setIfInBounds_toArray, List.set_cons_zero, List.set_cons_succ]
    refine wpAnyH_ready (rs := [4]) (by kernel_rfl) (by simp) ?_
    refine AllReadyH.cons (o := { dst := some 10, op := Go.Op.call { callee := Go.Callee.value (Go.Operand.func 12), args := #[Go.Operand.tmp 7, Go.Operand.tmp 9], argTypes := #[41, 9] }, type := 39, pos := "law.go:14", after := #[{ on := 1, ground := Go.Ground.data }, { on := 3, ground := Go.Ground.data }, { on := 1, ground := Go.Ground.chain }], guard := none }) rfl (fun K hK => ?_) AllReadyH.nil
    go_simp
    refine (snew_calls l zs18 _ (by decide)).mono ?_
    rintro e w2 ⟨c, rfl, S2, g2, hc⟩
    have HG2 := Lib.hid (show W.grownBy w2 none from by first | exact gb_trans (gb_trans (gb_drew _ _) (gb_trans (World.grownBy_alloc _ _ none) HG1.out)) g2 | exact gb_trans (gb_trans (World.grownBy_alloc _ _ none) HG1.out) g2)
    have HL2 := Lib.hid ((HL1.out).grown g2 (by simp))
    have HS2 := Lib.hid (S2 (hlw))
    have hl' : W.heap.size ≤ l := Nat.le_trans (World.grownBy_alloc _ _ none).size hl
    have hc' : W.heap.size ≤ c := by first | exact Nat.le_trans (gb_trans (gb_drew W none) (gb_trans (World.grownBy_alloc _ _ none) HG1.out)).size hc | exact Nat.le_trans (gb_trans (World.grownBy_alloc _ _ none) HG1.out).size hc
    clear S2 g2 hc
    try go_wp2_with fail
    refine hK.out _ _ ?_ (fun hHeld2 => ?_)
    · first | exact trivial | go_keep
    clear hHeld
    have hHeld := hHeld2
    clear hK K hHeld2
    try simp only [Act.put, List.setIfInBounds_toArray, List.set_cons_zero, List.set_cons_succ]
    refine wpAnyH_take (i := 5) (oi := { dst := some 5, op := Go.Op.move (Go.Operand.tmp 10), type := 39, pos := "law.go:14", after := #[{ on := 4, ground := Go.Ground.data }], guard := none }) (v := ?v5_7) rfl (by kernel_rfl) (by kernel_rfl) (by kernel_rfl) (fun _ _ _ h => h) (Or.inl ⟨by rfl, ?hy5_7⟩) (by assumption) ?rest5_7
    case hy5_7 =>
      intro w' hSw
      try dsimp only at hSw
      go_simp
      try with_reducible rfl
    try simp only [Act.put, List.setIfInBounds_toArray, List.set_cons_zero, List.set_cons_succ]
    refine wpAnyH_take (i := 6) (oi := { dst := some 11, op := Go.Op.extract (Go.Operand.tmp 5) 0, type := 38, pos := "law.go:14", after := #[{ on := 5, ground := Go.Ground.data }], guard := none }) (v := ?v6_8) rfl (by kernel_rfl) (by kernel_rfl) (by kernel_rfl) (fun _ _ _ h => h) (Or.inl ⟨by rfl, ?hy6_8⟩) (by assumption) ?rest6_8
    case hy6_8 =>
      intro w' hSw
      try dsimp only at hSw
      go_simp
      try with_reducible rfl
    try simp only [Act.put, List.setIfInBounds_toArray, List.set_cons_zero, List.set_cons_succ]
    refine wpAnyH_take (i := 7) (oi := { dst := some 12, op := Go.Op.extract (Go.Operand.tmp 5) 1, type := 24, pos := "law.go:14", after := #[{ on := 5, ground := Go.Ground.data }, { on := 8, ground := Go.Ground.gcOnly Go.Departure.lateStores }], guard := none }) (v := ?v7_9) rfl (by kernel_rfl) (by kernel_rfl) (by kernel_rfl) (fun _ _ _ h => h) (Or.inl ⟨by rfl, ?hy7_9⟩) (by assumption) ?rest7_9
    case hy7_9 =>
      intro w' hSw
      try dsimp only at hSw
      go_simp
      try with_reducible rfl
    try simp only [Act.put, List.setIfInBounds_toArray, List.set_cons_zero, List.set_cons_succ]
    refine wpAnyH_take (i := 8) (oi := { dst := some 1, op := Go.Op.assign (Go.Operand.tmp 11), type := 38, pos := "law.go:14", after := #[{ on := 6, ground := Go.Ground.data }, { on := 4, ground := Go.Ground.chain }, { on := 0, ground := Go.Ground.phase }, { on := 1, ground := Go.Ground.phase }, { on := 2, ground := Go.Ground.phase }, { on := 3, ground := Go.Ground.phase }, { on := 4, ground := Go.Ground.phase }, { on := 5, ground := Go.Ground.phase }, { on := 6, ground := Go.Ground.phase }, { on := 7, ground := Go.Ground.textOnly Go.Departure.lateStores }], guard := none }) (v := ?v8_10) rfl (by kernel_rfl) (by kernel_rfl) (by kernel_rfl) (fun _ _ _ h => h) (Or.inl ⟨by rfl, ?hy8_10⟩) (by assumption) ?rest8_10
    case hy8_10 =>
      intro w' hSw
      try dsimp only at hSw
      go_simp
      try with_reducible rfl
    try simp only [Act.put, List.setIfInBounds_toArray, List.set_cons_zero, List.set_cons_succ]
    refine wpAnyH_take (i := 9) (oi := { dst := some 2, op := Go.Op.assign (Go.Operand.tmp 12), type := 24, pos := "law.go:14", after := #[{ on := 7, ground := Go.Ground.data }, { on := 8, ground := Go.Ground.chain }, { on := 0, ground := Go.Ground.phase }, { on := 1, ground := Go.Ground.phase }, { on := 2, ground := Go.Ground.phase }, { on := 3, ground := Go.Ground.phase }, { on := 4, ground := Go.Ground.phase }, { on := 5, ground := Go.Ground.phase }, { on := 6, ground := Go.Ground.phase }, { on := 7, ground := Go.Ground.phase }, { on := 8, ground := Go.Ground.phase }], guard := none }) (v := ?v9_11) rfl (by kernel_rfl) (by kernel_rfl) (by kernel_rfl) (fun _ _ _ h => h) (Or.inl ⟨by rfl, ?hy9_11⟩) (by assumption) ?rest9_11
    case hy9_11 =>
      intro w' hSw
      try dsimp only at hSw
      go_simp
      try with_reducible rfl
    try simp only [Act.put, List.setIfInBounds_toArray, List.set_cons_zero, List.set_cons_succ]
    refine wpAnyH_done (by kernel_rfl) ?_ _
    have KR := Lib.hid (thead_bad c l zs18 zs18 0 0 18 1 (LW 9 0) w2 HS2.out HL2.out (LW_ok (by decide) (by decide) (by decide)) (LW_rd (by decide) (by decide) (by decide)) (by decide) (by decide) zs18_ck (by decide))
    go_wp2_with fail
    refine KR.out.mono ?_
    rintro e w3 ⟨rfl, _, t3⟩
    have HG3 := Lib.hid (Tn.own HG2.out t3 (by intro x hx; simp at hx; omega))
    clear t3
    go_wp2
    go_ret
    exact ⟨rfl, gb_trans HG3.out (gb_trans (World.grownBy_alloc _ _ _) (World.grownBy_alloc _ _ _))⟩
  refine AllReadyH.cons (o := { dst := some 9, op := Go.Op.convert 45 9 (Go.Operand.tmp 8), type := 9, pos := "law.go:14", after := #[{ on := 2, ground := Go.Ground.data }], guard := none }) rfl (fun K hK => ?_) AllReadyH.nil
  go_simp
  rw [show (IntKind.i64.wrap 18).toNat = 18 from rfl, conv0 (push_at _ _ _ (by kernel_rfl))]
  go_simp
  refine hK.out _ _ ?_ (fun hHeld2 => ?_)
  · first | exact trivial | go_keep
  clear hHeld
  have hHeld := hHeld2
  clear hK K hHeld2
  try simp only [Act.put, List.setIfInBounds_toArray, List.set_cons_zero, List.set_cons_succ]
  refine wpAnyH_ready (rs := [1]) (by kernel_rfl) (by simp) ?_
  refine AllReadyH.cons (o := { dst := some 7, op := Go.Op.call { callee := Go.Callee.value (Go.Operand.func 13), args := #[Go.Operand.tmp 6], argTypes := #[44] }, type := 41, pos := "law.go:14", after := #[{ on := 0, ground := Go.Ground.data }], guard := none }) rfl (fun K hK => ?_) AllReadyH.nil
  go_simp
  refine (wnew_calls 9 (by decide) _).mono ?_
  rintro e w1 ⟨l, rfl, L1, g1, hl⟩
  have HL1 := Lib.hid L1
  have hlw := L1.lt
  have HG1 := Lib.hid g1
  clear L1 g1
  try go_wp2_with fail
  refine hK.out _ _ ?_ (fun hHeld2 => ?_)
  · first | exact trivial | go_keep
  clear hHeld
  have hHeld := hHeld2
  clear hK K hHeld2
  try simp only [Act.put, List.setIfInBounds_toArray, List.set_cons_zero, List.set_cons_succ]
  refine wpAnyH_ready (rs := [4]) (by kernel_rfl) (by simp) ?_
  refine AllReadyH.cons (o := { dst := some 10, op := Go.Op.call { callee := Go.Callee.value (Go.Operand.func 12), args := #[Go.Operand.tmp 7, Go.Operand.tmp 9], argTypes := #[41, 9] }, type := 39, pos := "law.go:14", after := #[{ on := 1, ground := Go.Ground.data }, { on := 3, ground := Go.Ground.data }, { on := 1, ground := Go.Ground.chain }], guard := none }) rfl (fun K hK => ?_) AllReadyH.nil
  go_simp
  refine (snew_calls l zs18 _ (by decide)).mono ?_
  rintro e w2 ⟨c, rfl, S2, g2, hc⟩
  have HG2 := Lib.hid (show W.grownBy w2 none from by first | exact gb_trans (gb_trans (gb_drew _ _) (gb_trans (World.grownBy_alloc _ _ none) HG1.out)) g2 | exact gb_trans (gb_trans (World.grownBy_alloc _ _ none) HG1.out) g2)
  have HL2 := Lib.hid ((HL1.out).grown g2 (by simp))
  have HS2 := Lib.hid (S2 (hlw))
  have hl' : W.heap.size ≤ l := Nat.le_trans (World.grownBy_alloc _ _ none).size hl
  have hc' : W.heap.size ≤ c := by first | exact Nat.le_trans (gb_trans (gb_drew W none) (gb_trans (World.grownBy_alloc _ _ none) HG1.out)).size hc | exact Nat.le_trans (gb_trans (World.grownBy_alloc _ _ none) HG1.out).size hc
  clear S2 g2 hc
  try go_wp2_with fail
  refine hK.out _ _ ?_ (fun hHeld2 => ?_)
  · first | exact trivial | go_keep
  clear hHeld
  have hHeld := hHeld2
  clear hK K hHeld2
  try simp only [Act.put, List.setIfInBounds_toArray, List.set_cons_zero, List.set_cons_succ]
  refine wpAnyH_take (i := 5) (oi := { dst := some 5, op := Go.Op.move (Go.Operand.tmp 10), type := 39, pos := "law.go:14", after := #[{ on := 4, ground := Go.Ground.data }], guard := none }) (v := ?v5_12) rfl (by kernel_rfl) (by kernel_rfl) (by kernel_rfl) (fun _ _ _ h => h) (Or.inl ⟨by rfl, ?hy5_12⟩) (by assumption) ?rest5_12
  case hy5_12 =>
    intro w' hSw
    try dsimp only at hSw
    go_simp
    try with_reducible rfl
  try simp only [Act.put, List.setIfInBounds_toArray, List.set_cons_zero, List.set_cons_succ]
  refine wpAnyH_take (i := 6) (oi := { dst := some 11, op := Go.Op.extract (Go.Operand.tmp 5) 0, type := 38, pos := "law.go:14", after := #[{ on := 5, ground := Go.Ground.data }], guard := none }) (v := ?v6_13) rfl (by kernel_rfl) (by kernel_rfl) (by kernel_rfl) (fun _ _ _ h => h) (Or.inl ⟨by rfl, ?hy6_13⟩) (by assumption) ?rest6_13
  case hy6_13 =>
    intro w' hSw
    try dsimp only at hSw
    go_simp
    try with_reducible rfl
  try simp only [Act.put, List.setIfInBounds_toArray, List.set_cons_zero, List.set_cons_succ]
  refine wpAnyH_take (i := 7) (oi := { dst := some 12, op := Go.Op.extract (Go.Operand.tmp 5) 1, type := 24, pos := "law.go:14", after := #[{ on := 5, ground := Go.Ground.data }, { on := 8, ground := Go.Ground.gcOnly Go.Departure.lateStores }], guard := none }) (v := ?v7_14) rfl (by kernel_rfl) (by kernel_rfl) (by kernel_rfl) (fun _ _ _ h => h) (Or.inl ⟨by rfl, ?hy7_14⟩) (by assumption) ?rest7_14
  case hy7_14 =>
    intro w' hSw
    try dsimp only at hSw
    go_simp
    try with_reducible rfl
  try simp only [Act.put, List.setIfInBounds_toArray, List.set_cons_zero, List.set_cons_succ]
  refine wpAnyH_take (i := 8) (oi := { dst := some 1, op := Go.Op.assign (Go.Operand.tmp 11), type := 38, pos := "law.go:14", after := #[{ on := 6, ground := Go.Ground.data }, { on := 4, ground := Go.Ground.chain }, { on := 0, ground := Go.Ground.phase }, { on := 1, ground := Go.Ground.phase }, { on := 2, ground := Go.Ground.phase }, { on := 3, ground := Go.Ground.phase }, { on := 4, ground := Go.Ground.phase }, { on := 5, ground := Go.Ground.phase }, { on := 6, ground := Go.Ground.phase }, { on := 7, ground := Go.Ground.textOnly Go.Departure.lateStores }], guard := none }) (v := ?v8_15) rfl (by kernel_rfl) (by kernel_rfl) (by kernel_rfl) (fun _ _ _ h => h) (Or.inl ⟨by rfl, ?hy8_15⟩) (by assumption) ?rest8_15
  case hy8_15 =>
    intro w' hSw
    try dsimp only at hSw
    go_simp
    try with_reducible rfl
  try simp only [Act.put, List.setIfInBounds_toArray, List.set_cons_zero, List.set_cons_succ]
  refine wpAnyH_take (i := 9) (oi := { dst := some 2, op := Go.Op.assign (Go.Operand.tmp 12), type := 24, pos := "law.go:14", after := #[{ on := 7, ground := Go.Ground.data }, { on := 8, ground := Go.Ground.chain }, { on := 0, ground := Go.Ground.phase }, { on := 1, ground := Go.Ground.phase }, { on := 2, ground := Go.Ground.phase }, { on := 3, ground := Go.Ground.phase }, { on := 4, ground := Go.Ground.phase }, { on := 5, ground := Go.Ground.phase }, { on := 6, ground := Go.Ground.phase }, { on := 7, ground := Go.Ground.phase }, { on := 8, ground := Go.Ground.phase }], guard := none }) (v := ?v9_16) rfl (by kernel_rfl) (by kernel_rfl) (by kernel_rfl) (fun _ _ _ h => h) (Or.inl ⟨by rfl, ?hy9_16⟩) (by assumption) ?rest9_16
  case hy9_16 =>
    intro w' hSw
    try dsimp only at hSw
    go_simp
    try with_reducible rfl
  try simp only [Act.put, List.setIfInBounds_toArray, List.set_cons_zero, List.set_cons_succ]
  refine wpAnyH_done (by kernel_rfl) ?_ _
  have KR := Lib.hid (thead_bad c l zs18 zs18 0 0 18 1 (LW 9 0) w2 HS2.out HL2.out (LW_ok (by decide) (by decide) (by decide)) (LW_rd (by decide) (by decide) (by decide)) (by decide) (by decide) zs18_ck (by decide))
  go_wp2_with fail
  refine KR.out.mono ?_
  rintro e w3 ⟨rfl, _, t3⟩
  have HG3 := Lib.hid (Tn.own HG2.out t3 (by intro x hx; simp at hx; omega))
  clear t3
  go_wp2
  go_ret
  exact ⟨rfl, gb_trans HG3.out (gb_trans (World.grownBy_alloc _ _ _) (World.grownBy_alloc _ _ _))⟩

end Go.Proofs.Ytgkeopgccocmkaa.Tg

