/- Texts of one kind, one behind the other: TgaSy. -/
import Derived.Deep.Cut
import Derived.Test.YtnieeckdldpebaaGreatG05
/- The document's Read of a head with a map (written by tga7c.py). -/
namespace Go.Proofs.YtnieeckdldpebaaGreat.Tg
open Go.ChangeShapes Go.WideShapes Go.ChangeAt Go.RowKit
open Go.Proofs.YtnieeckdldpebaaGreat.Le Go.Proofs.YtnieeckdldpebaaGreat.Sr
set_option linter.unusedVariables false

set_option maxRecDepth 100000 in
set_option maxHeartbeats 16000000 in
theorem read_mp (s : ByteArray) (K : Nat) (RV : Array Value) (x0 x2 x7 x16 x17 A B X Y al : Nat) (lf tp : Bool) (W : World) (h18 : 18 ≤ s.size) (hm : s.size ≤ 9223372036854775807) (C : Ck s K) (hRV : rV s K = RV)
    (e0 : bn s 0 = x0) (e1 : bn s 1 = 1) (e2 : bn s 2 = x2) (e7 : bn s 7 = x7) (e16 : bn s 16 = x16) (e17 : bn s 17 = x17) (eA : wd s 3 = A) (eB : wd s 5 = B) (eX : wd s 12 = X) (eY : wd s 14 = Y) (eal : x17 % 16 = al) (elf : lft s = lf) (etp : tpp s = tp) :
    Calls Tryz.prog 22 #[.string s] W fun e w' => e = .returned (.agg RV) ∧ W.grownBy w' none := by
  have bA := wd_lt s 3
  have bB := wd_lt s 5
  have bX := wd_lt s 12
  have bY := wd_lt s 14
  have b0 := bn_lt s 0
  have b2 := bn_lt s 2
  have b7 := bn_lt s 7
  have b16 := bn_lt s 16
  have b17 := bn_lt s 17
  rw [eA] at bA
  rw [eB] at bB
  rw [eX] at bX
  rw [eY] at bY
  rw [e0] at b0
  rw [e2] at b2
  rw [e7] at b7
  rw [e16] at b16
  rw [e17] at b17
  have g0 : ((s[0]'(by omega)).toNat : Int) = x0 := bn_cell s 0 (by omega) e0
  have g1 : ((s[1]'(by omega)).toNat : Int) = 1 := bn_cell s 1 (by omega) e1
  have g2 : ((s[2]'(by omega)).toNat : Int) = x2 := bn_cell s 2 (by omega) e2
  have g7 : ((s[7]'(by omega)).toNat : Int) = x7 := bn_cell s 7 (by omega) e7
  have g16 : ((s[16]'(by omega)).toNat : Int) = x16 := bn_cell s 16 (by omega) e16
  have g17 : ((s[17]'(by omega)).toNat : Int) = x17 := bn_cell s 17 (by omega) e17
  have i0 : 0 < s.size := by omega
  have i1 : (1 : Int) < (s.size : Int) := by omega
  have i2 : (2 : Int) < (s.size : Int) := by omega
  have i7 : (7 : Int) < (s.size : Int) := by omega
  have i16 : (16 : Int) < (s.size : Int) := by omega
  have i17 : (17 : Int) < (s.size : Int) := by omega
  have i18 : ¬ (s.size : Int) < 18 := by omega
  have v0 : IntKind.i64.wrap (x0 : Int) = x0 := by rw [IntKind.wrap_i64]; omega
  have vw : IntKind.i64.wrap 1 = 1 := by rw [IntKind.wrap_i64]; decide
  have v2 : IntKind.i64.wrap (x2 : Int) = x2 := by rw [IntKind.wrap_i64]; omega
  have v7 : IntKind.i64.wrap (x7 : Int) = x7 := by rw [IntKind.wrap_i64]; omega
  have v16 : IntKind.i64.wrap (x16 : Int) = x16 := by rw [IntKind.wrap_i64]; omega
  have v17 : IntKind.i64.wrap (x17 : Int) = x17 := by rw [IntKind.wrap_i64]; omega
  have m1 : (x17 : Int) % 16 = al := by omega
  have m2 : (x17 : Int).tmod 16 = al := by rw [Int.tmod_eq_emod_of_nonneg (by omega)]; exact m1
  obtain ⟨q16, hq16⟩ : ∃ q, x17 / 16 = q := ⟨_, rfl⟩
  obtain ⟨q32, hq32⟩ : ∃ q, x17 / 32 = q := ⟨_, rfl⟩
  obtain ⟨p16, hp16⟩ : ∃ q, q16 % 2 = q := ⟨_, rfl⟩
  obtain ⟨p32, hp32⟩ : ∃ q, q32 % 2 = q := ⟨_, rfl⟩
  have m3 : (x17 : Int) / 16 = q16 := by omega
  have m4 : (x17 : Int).tdiv 16 = q16 := by rw [Int.tdiv_eq_ediv_of_nonneg (by omega)]; exact m3
  have m5 : (x17 : Int) / 32 = q32 := by omega
  have m6 : (x17 : Int).tdiv 32 = q32 := by rw [Int.tdiv_eq_ediv_of_nonneg (by omega)]; exact m5
  have m7 : (q16 : Int) % 2 = p16 := by omega
  have m8 : (q16 : Int).tmod 2 = p16 := by rw [Int.tmod_eq_emod_of_nonneg (by omega)]; exact m7
  have m9 : (q32 : Int) % 2 = p32 := by omega
  have m10 : (q32 : Int).tmod 2 = p32 := by rw [Int.tmod_eq_emod_of_nonneg (by omega)]; exact m9
  have zl : ((p16 : Int) == 1) = lf := by
    rw [← elf]
    unfold lft
    rw [e17, hq16, hp16, Bool.eq_iff_iff]
    simp
    omega
  have zt : ((p32 : Int) == 1) = tp := by
    rw [← etp]
    unfold tpp
    rw [e17, hq32, hp32, Bool.eq_iff_iff]
    simp
    omega
  have KLA := fun u => le_is s 3 (by omega) u
  have KLB := fun u => le_is s 5 (by omega) u
  have KLX := fun u => le_is s 12 (by omega) u
  have KLY := fun u => le_is s 14 (by omega) u
  simp only [eA] at KLA
  simp only [eB] at KLB
  simp only [eX] at KLX
  simp only [eY] at KLY
  have KLA := Lib.hid KLA
  have KLB := Lib.hid KLB
  have KLX := Lib.hid KLX
  have KLY := Lib.hid KLY
  have sA : ∀ w, (Instr.slice 9 (.string s) (some (.int .i64 3)) (some (.int .i64 5)) none).run Tryz.prog w = .ok (.string (s.extract 3 (3 + 2))) w := fun w => cut_at s 3 2 (by omega) w
  have sB : ∀ w, (Instr.slice 9 (.string s) (some (.int .i64 5)) (some (.int .i64 7)) none).run Tryz.prog w = .ok (.string (s.extract 5 (5 + 2))) w := fun w => cut_at s 5 2 (by omega) w
  have sX : ∀ w, (Instr.slice 9 (.string s) (some (.int .i64 12)) (some (.int .i64 14)) none).run Tryz.prog w = .ok (.string (s.extract 12 (12 + 2))) w := fun w => cut_at s 12 2 (by omega) w
  have sY : ∀ w, (Instr.slice 9 (.string s) (some (.int .i64 14)) (some (.int .i64 16)) none).run Tryz.prog w = .ok (.string (s.extract 14 (14 + 2))) w := fun w => cut_at s 14 2 (by omega) w
  have hmp : mpB s = true := by unfold mpB; rw [e1]; rfl
  have HGOOD : rV s 12 = #[.int .i64 x0, .int .i64 1, .int .i64 x2, .int .i64 A, .int .i64 B, .int .i64 x7, .int .i64 X, .int .i64 Y, .int .i64 x16, .int .i64 al, .bool lf, .bool tp, .int .i64 0, .int .i64 0] := by
    unfold rV rGood fst cnt ent alp
    rw [if_pos rfl, hmp, e0, e2, eX, eY, e16, e17, eal, elf, etp]
    simp [eA, eB, e7]
  have HGOOD := Lib.hid HGOOD
  have HMP := Lib.hid hmp
  have HX1 := Lib.hid e1
  have H0 := Lib.hid e0
  have HA := Lib.hid eA
  have HLF := Lib.hid elf
  have HTP := Lib.hid etp
  have HX2 := Lib.hid e2
  have HX7 := Lib.hid e7
  have HX16 := Lib.hid e16
  have HX17 := Lib.hid e17
  have HB := Lib.hid eB
  have HX := Lib.hid eX
  have HY := Lib.hid eY
  have HAL := Lib.hid eal
  have HC := Lib.hid C
  have HLK := Lib.hid C.le
  have ERV := Lib.hid hRV
  clear e0 e1 e2 e7 e16 e17 eA eB eX eY eal elf etp hmp C hRV hq16 hq32 hp16 hp32
  go_enter Tryz.func22, Tryz.ntmps22
  go_upto_region 1 with fail
  have hR : (W.alloc (.cells #[.int .i64 0, .int .i64 0, .int .i64 0, .int .i64 0, .int .i64 0, .int .i64 0, .int .i64 0, .int .i64 0, .int .i64 0, .int .i64 0, .bool false, .bool false, .int .i64 0, .int .i64 0] 57)).heap[W.heap.size]? = some (.cells #[.int .i64 0, .int .i64 0, .int .i64 0, .int .i64 0, .int .i64 0, .int .i64 0, .int .i64 0, .int .i64 0, .int .i64 0, .int .i64 0, .bool false, .bool false, .int .i64 0, .int .i64 0] 57 (0, 0)) := blk_at
  have hG := World.grownBy_alloc W (.cells #[.int .i64 0, .int .i64 0, .int .i64 0, .int .i64 0, .int .i64 0, .int .i64 0, .int .i64 0, .int .i64 0, .int .i64 0, .int .i64 0, .bool false, .bool false, .int .i64 0, .int .i64 0] 57) none
  have hZ := size_alloc W (.cells #[.int .i64 0, .int .i64 0, .int .i64 0, .int .i64 0, .int .i64 0, .int .i64 0, .int .i64 0, .int .i64 0, .int .i64 0, .int .i64 0, .bool false, .bool false, .int .i64 0, .int .i64 0] 57)
  generalize W.alloc (.cells #[.int .i64 0, .int .i64 0, .int .i64 0, .int .i64 0, .int .i64 0, .int .i64 0, .int .i64 0, .int .i64 0, .int .i64 0, .int .i64 0, .bool false, .bool false, .int .i64 0, .int .i64 0] 57) = w1 at hR hG hZ ⊢
  obtain ⟨bx, hbx⟩ : ∃ bx, w1.heap.size = bx := ⟨_, rfl⟩
  have HEB := Lib.hid (show bx = W.heap.size + 1 by omega)
  have HNE := Lib.hid (show W.heap.size ≠ bx by omega)
  have HLE := Lib.hid (show W.heap.size ≤ bx by omega)
  have ne1 : W.heap.size ≠ bx := HNE.out
  have ne2 : bx ≠ W.heap.size := fun h => HNE.out h.symm
  have HR := Lib.hid hR
  have HG := Lib.hid hG
  clear hR hG hZ
  have hc1 : ∀ (w : World) (o : Obj), w.drew.alloc o = (w.alloc o).drew := fun _ _ => rfl
  have hc2 : ∀ (w : World) (a : Addr) (v : Value), w.drew.setCell a v = (w.setCell a v).drew := fun w a v => drewN_set w 1 a v
  have k0 : ck s 0 = false := by simp only [ck, HX1.out]; decide
  have hk0 := Lib.hid (show K ≠ 0 from fun h => by have := HC.out.yes; rw [h, k0] at this; cases this)
  clear k0
  go_upto_region 6 with fail
  go_cut [40] from 6 (fun c wx => c = .bool (!(typB x2)) ∧ w1 = wx)
  case first =>
    by_cases ht : x2 = 1 ∨ x2 = 2 ∨ x2 = 3 ∨ x2 = 9 ∨ x2 = 10 ∨ x2 = 11
    · have hv := Lib.hid (show (!(typB x2)) = false from by unfold typB pln; obtain h | h | h | h | h | h := ht <;> subst h <;> decide)
      obtain h | h | h | h | h | h := ht
      all_goals
        subst h
        go_wp2_with fail
        go_meet
        exact ⟨by first | rfl | (rw [hv.out, b8]; done) | (rw [hv.out, b8]; rfl) | (rw [hv.out]; done) | (rw [hv.out]; rfl), rfl⟩
    · have hv := Lib.hid (show (!(typB x2)) = true from by unfold typB pln; rw [Bool.not_eq_true', decide_eq_false_iff_not]; split <;> omega)
      have b1 : ((x2 : Int) != 1) = true := by rw [bne_iff_ne]; omega
      have b2 : ((x2 : Int) != 2) = true := by rw [bne_iff_ne]; omega
      have b3 : ((x2 : Int) != 3) = true := by rw [bne_iff_ne]; omega
      have b4 : ((x2 : Int) != 9) = true := by rw [bne_iff_ne]; omega
      have b5 : ((x2 : Int) != 10) = true := by rw [bne_iff_ne]; omega
      have b6 : ((x2 : Int) != 11) = true := by rw [bne_iff_ne]; omega
      clear ht
      go_wp2_with fail
      go_meet
      exact ⟨by first | rfl | (rw [hv.out, b8]; done) | (rw [hv.out, b8]; rfl) | (rw [hv.out]; done) | (rw [hv.out]; rfl), rfl⟩
  case rest =>
    obtain ⟨rfl, rfl⟩ := hcut
    by_cases hKk : K = 1
    · have hck : ck s 1 = true := hKk ▸ HC.out.yes
      have d1 : typB x2 = false := by have h := hck; simp only [ck, HX2.out] at h; simpa using h
      clear hck
      simp only [d1, Bool.not_false]
      have E := Lib.hid (show RV = #[.int .i64 0, .int .i64 0, .int .i64 0, .int .i64 0, .int .i64 0, .int .i64 0, .int .i64 0, .int .i64 0, .int .i64 0, .int .i64 0, .bool false, .bool false, .int .i64 3, .int .i64 2] from by rw [← ERV.out, hKk]; rfl)
      have KB := Lib.hid (fun u => bad_calls 3 2 u)
      go_wp2_with fail
      refine (KB.out _).mono ?_
      rintro e w9 ⟨rfl, g9⟩
      have B9 := old0 g9 HR.out (blk_lt HR.out) (by simp)
      have r0 : w9.cell? ⟨W.heap.size, 0, none⟩ = some (.int .i64 0) := blk_cell B9 0
      have rf0 := blk_free B9 0
      have r1 : w9.cell? ⟨W.heap.size, 1, none⟩ = some (.int .i64 0) := blk_cell B9 1
      have rf1 := blk_free B9 1
      have r2 : w9.cell? ⟨W.heap.size, 2, none⟩ = some (.int .i64 0) := blk_cell B9 2
      have rf2 := blk_free B9 2
      have r3 : w9.cell? ⟨W.heap.size, 3, none⟩ = some (.int .i64 0) := blk_cell B9 3
      have rf3 := blk_free B9 3
      have r4 : w9.cell? ⟨W.heap.size, 4, none⟩ = some (.int .i64 0) := blk_cell B9 4
      have rf4 := blk_free B9 4
      have r5 : w9.cell? ⟨W.heap.size, 5, none⟩ = some (.int .i64 0) := blk_cell B9 5
      have rf5 := blk_free B9 5
      have r6 : w9.cell? ⟨W.heap.size, 6, none⟩ = some (.int .i64 0) := blk_cell B9 6
      have rf6 := blk_free B9 6
      have r7 : w9.cell? ⟨W.heap.size, 7, none⟩ = some (.int .i64 0) := blk_cell B9 7
      have rf7 := blk_free B9 7
      have r8 : w9.cell? ⟨W.heap.size, 8, none⟩ = some (.int .i64 0) := blk_cell B9 8
      have rf8 := blk_free B9 8
      have r9 : w9.cell? ⟨W.heap.size, 9, none⟩ = some (.int .i64 0) := blk_cell B9 9
      have rf9 := blk_free B9 9
      have r10 : w9.cell? ⟨W.heap.size, 10, none⟩ = some (.bool false) := blk_cell B9 10
      have rf10 := blk_free B9 10
      have r11 : w9.cell? ⟨W.heap.size, 11, none⟩ = some (.bool false) := blk_cell B9 11
      have rf11 := blk_free B9 11
      have r12 : w9.cell? ⟨W.heap.size, 12, none⟩ = some (.int .i64 0) := blk_cell B9 12
      have rf12 := blk_free B9 12
      have r13 : w9.cell? ⟨W.heap.size, 13, none⟩ = some (.int .i64 0) := blk_cell B9 13
      have rf13 := blk_free B9 13
      have hlr := blk_lt B9
      have G9 := Lib.hid (gb_trans HG.out g9)
      clear g9 B9 KB
      go_wp2
      refine bodyPost_ret (v := .agg #[.int .i64 0, .int .i64 0, .int .i64 0, .int .i64 0, .int .i64 0, .int .i64 0, .int .i64 0, .int .i64 0, .int .i64 0, .int .i64 0, .bool false, .bool false, .int .i64 3, .int .i64 2]) (by simp only [results, Tryz.results22]; go_simp) rfl ⟨by rw [E.out], ?_⟩
      exact gb_own (gb_own (gb_own (gb_own (gb_own (gb_own (gb_own (gb_own (gb_own (gb_own (gb_own (gb_own (gb_own (gb_own (G9.out) (Nat.le_refl _) (gb_set _ _ _ _)) (Nat.le_refl _) (gb_set _ _ _ _)) (Nat.le_refl _) (gb_set _ _ _ _)) (Nat.le_refl _) (gb_set _ _ _ _)) (Nat.le_refl _) (gb_set _ _ _ _)) (Nat.le_refl _) (gb_set _ _ _ _)) (Nat.le_refl _) (gb_set _ _ _ _)) (Nat.le_refl _) (gb_set _ _ _ _)) (Nat.le_refl _) (gb_set _ _ _ _)) (Nat.le_refl _) (gb_set _ _ _ _)) (Nat.le_refl _) (gb_set _ _ _ _)) (Nat.le_refl _) (gb_set _ _ _ _)) (Nat.le_refl _) (gb_set _ _ _ _)) (Nat.le_refl _) (gb_set _ _ _ _)
    have hck : ck s 1 = false := HC.out.no 1 (by have h0 := hk0.out; omega)
    have hk1 := Lib.hid hKk
    have d1 : typB x2 = true := by have h := hck; simp only [ck, HX2.out] at h; simpa using h
    simp only [d1, Bool.not_true]
    clear hKk hck
    clear d1
    go_upto_region 8 with fail
    have k2 : ck s 2 = false := by simp only [ck, HMP.out]; simp
    have hk2 := Lib.hid (show K ≠ 2 from fun h => by have := HC.out.yes; rw [h, k2] at this; cases this)
    clear k2
    go_cut [52] from 6 (fun c wx => c = .bool false ∧ w1 = wx)
    case first =>
      cases b1 : ((x2 : Int) == 1)
      · cases b2 : ((x2 : Int) == 9)
        all_goals
          go_wp2_with fail
          go_meet
          exact ⟨by first | rfl | (rw [hv.out, b8]; done) | (rw [hv.out, b8]; rfl) | (rw [hv.out]; done) | (rw [hv.out]; rfl), rfl⟩
      · go_wp2_with fail
        go_meet
        exact ⟨by first | rfl | (rw [hv.out, b8]; done) | (rw [hv.out, b8]; rfl) | (rw [hv.out]; done) | (rw [hv.out]; rfl), rfl⟩
    case rest =>
      obtain ⟨rfl, rfl⟩ := hcut
      go_upto_region 10 with fail
      refine wp_region_held_drew (S := fun _ => True) (by kernel_rfl) ?_ (fun hHeld => ?_)
      · first | exact trivial | go_keep
      refine wpAnyH_take (i := 0) (oi := { dst := some 54, op := Go.Op.move (Go.Operand.tmp 0), type := 9, pos := "ref.go:38", after := #[], guard := none }) (v := ?v0_15) rfl (by kernel_rfl) (by kernel_rfl) (by kernel_rfl) (fun _ _ _ h => h) (Or.inl ⟨by rfl, ?hy0_15⟩) (by assumption) ?rest0_15
      case hy0_15 =>
        intro w' hSw
        try dsimp only at hSw
        go_simp
        try with_reducible rfl
      try simp only [Act.put, List.setIfInBounds_toArray, List.set_cons_zero, List.set_cons_succ]
      refine wpAnyH_take (i := 1) (oi := { dst := some 55, op := Go.Op.index 9 (Go.Operand.tmp 54) (Go.Operand.const (Go.Value.int Go.IntKind.i64 0)), type := 5, pos := "ref.go:38", after := #[{ on := 0, ground := Go.Ground.data }], guard := none }) (v := ?v1_16) rfl (by kernel_rfl) (by kernel_rfl) (by kernel_rfl) (fun _ _ _ h => h) (Or.inl ⟨by rfl, ?hy1_16⟩) (by assumption) ?rest1_16
      case hy1_16 =>
        intro w' hSw
        try dsimp only at hSw
        go_simp
        try with_reducible rfl
      try simp only [Act.put, List.setIfInBounds_toArray, List.set_cons_zero, List.set_cons_succ]
      refine wpAnyH_take (i := 2) (oi := { dst := some 56, op := Go.Op.convert 5 3 (Go.Operand.tmp 55), type := 3, pos := "ref.go:38", after := #[{ on := 1, ground := Go.Ground.data }], guard := none }) (v := ?v2_17) rfl (by kernel_rfl) (by kernel_rfl) (by kernel_rfl) (fun _ _ _ h => h) (Or.inl ⟨by rfl, ?hy2_17⟩) (by assumption) ?rest2_17
      case hy2_17 =>
        intro w' hSw
        try dsimp only at hSw
        go_simp
        try with_reducible rfl
      try simp only [Act.put, List.setIfInBounds_toArray, List.set_cons_zero, List.set_cons_succ]
      refine wpAnyH_take (i := 3) (oi := { dst := some 57, op := Go.Op.move (Go.Operand.tmp 0), type := 9, pos := "ref.go:38", after := #[], guard := none }) (v := ?v3_18) rfl (by kernel_rfl) (by kernel_rfl) (by kernel_rfl) (fun _ _ _ h => h) (Or.inl ⟨by rfl, ?hy3_18⟩) (by assumption) ?rest3_18
      case hy3_18 =>
        intro w' hSw
        try dsimp only at hSw
        go_simp
        try with_reducible rfl
      try simp only [Act.put, List.setIfInBounds_toArray, List.set_cons_zero, List.set_cons_succ]
      refine wpAnyH_take (i := 4) (oi := { dst := some 58, op := Go.Op.index 9 (Go.Operand.tmp 57) (Go.Operand.const (Go.Value.int Go.IntKind.i64 1)), type := 5, pos := "ref.go:38", after := #[{ on := 3, ground := Go.Ground.data }], guard := none }) (v := ?v4_19) rfl (by kernel_rfl) (by kernel_rfl) (by kernel_rfl) (fun _ _ _ h => h) (Or.inl ⟨by rfl, ?hy4_19⟩) (by assumption) ?rest4_19
      case hy4_19 =>
        intro w' hSw
        try dsimp only at hSw
        go_simp
        try with_reducible rfl
      try simp only [Act.put, List.setIfInBounds_toArray, List.set_cons_zero, List.set_cons_succ]
      refine wpAnyH_take (i := 5) (oi := { dst := some 59, op := Go.Op.convert 5 3 (Go.Operand.tmp 58), type := 3, pos := "ref.go:38", after := #[{ on := 4, ground := Go.Ground.data }], guard := none }) (v := ?v5_20) rfl (by kernel_rfl) (by kernel_rfl) (by kernel_rfl) (fun _ _ _ h => h) (Or.inl ⟨by rfl, ?hy5_20⟩) (by assumption) ?rest5_20
      case hy5_20 =>
        intro w' hSw
        try dsimp only at hSw
        go_simp
        try with_reducible rfl
      try simp only [Act.put, List.setIfInBounds_toArray, List.set_cons_zero, List.set_cons_succ]
      refine wpAnyH_take (i := 6) (oi := { dst := some 60, op := Go.Op.move (Go.Operand.tmp 3), type := 3, pos := "ref.go:38", after := #[], guard := none }) (v := ?v6_21) rfl (by kernel_rfl) (by kernel_rfl) (by kernel_rfl) (fun _ _ _ h => h) (Or.inl ⟨by rfl, ?hy6_21⟩) (by assumption) ?rest6_21
      case hy6_21 =>
        intro w' hSw
        try dsimp only at hSw
        go_simp
        try with_reducible rfl
      try simp only [Act.put, List.setIfInBounds_toArray, List.set_cons_zero, List.set_cons_succ]
      refine wpAnyH_take (i := 7) (oi := { dst := some 61, op := Go.Op.build 57 #[(0, Go.Operand.tmp 56), (1, Go.Operand.tmp 59), (2, Go.Operand.tmp 60)], type := 57, pos := "ref.go:38", after := #[{ on := 2, ground := Go.Ground.data }, { on := 5, ground := Go.Ground.data }, { on := 6, ground := Go.Ground.data }], guard := none }) (v := ?v7_22) rfl (by kernel_rfl) (by kernel_rfl) (by kernel_rfl) (fun _ _ _ h => h) (Or.inl ⟨by rfl, ?hy7_22⟩) (by assumption) ?rest7_22
      case hy7_22 =>
        intro w' hSw
        try dsimp only at hSw
        go_simp
        try with_reducible rfl
      try simp only [Act.put, List.setIfInBounds_toArray, List.set_cons_zero, List.set_cons_succ]
      refine wpAnyH_ready (rs := [8]) (by kernel_rfl) (by simp) ?_
      refine AllReadyH.cons (o := { dst := some 4, op := Go.Op.alloc 57, type := 0, pos := "ref.go:38", after := #[], guard := none }) rfl (fun K hK => ?_) AllReadyH.nil
      go_simp
      refine hK.out _ _ ?_ (fun hHeld2 => ?_)
      · first | exact trivial | go_keep
      clear hHeld
      have hHeld := hHeld2
      clear hK K hHeld2
      try simp only [Act.put, List.setIfInBounds_toArray, List.set_cons_zero, List.set_cons_succ]
      refine wpAnyH_ready (rs := [9]) (by kernel_rfl) (by simp) ?_
      refine AllReadyH.cons (o := { dst := none, op := Go.Op.store 57 (Go.Operand.tmp 4) (Go.Operand.tmp 61), type := 0, pos := "ref.go:38", after := #[{ on := 8, ground := Go.Ground.data }, { on := 7, ground := Go.Ground.data }, { on := 0, ground := Go.Ground.phase }, { on := 1, ground := Go.Ground.phase }, { on := 2, ground := Go.Ground.phase }, { on := 3, ground := Go.Ground.phase }, { on := 4, ground := Go.Ground.phase }, { on := 5, ground := Go.Ground.phase }, { on := 6, ground := Go.Ground.phase }, { on := 7, ground := Go.Ground.phase }, { on := 8, ground := Go.Ground.phase }], guard := none }) rfl (fun K hK => ?_) AllReadyH.nil
      go_simp
      refine hK.out _ _ ?_ (fun hHeld2 => ?_)
      · first | exact trivial | go_keep
      clear hHeld
      have hHeld := hHeld2
      clear hK K hHeld2
      try simp only [Act.put, List.setIfInBounds_toArray, List.set_cons_zero, List.set_cons_succ]
      refine wpAnyH_done (by kernel_rfl) ?_ _
      refine abs_w (R := RI W bx #[.int .i64 x0, .int .i64 1, .int .i64 x2, .int .i64 0, .int .i64 0, .int .i64 0, .int .i64 0, .int .i64 0, .int .i64 0, .int .i64 0, .bool false, .bool false, .int .i64 0, .int .i64 0]) ?_ (fun w2 I => ?_)
      · refine ⟨?_, ?_, HEB.out, ?_⟩
        · exact (blk_al HR.out (.cells #[.int .i64 x0, .int .i64 1, .int .i64 x2, .int .i64 0, .int .i64 0, .int .i64 0, .int .i64 0, .int .i64 0, .int .i64 0, .int .i64 0, .bool false, .bool false, .int .i64 0, .int .i64 0] 57))
        · exact at_bx hbx
        · exact gb_trans (gb_trans HG.out (World.grownBy_alloc w1 (.cells #[.int .i64 x0, .int .i64 1, .int .i64 x2, .int .i64 0, .int .i64 0, .int .i64 0, .int .i64 0, .int .i64 0, .int .i64 0, .int .i64 0, .bool false, .bool false, .int .i64 0, .int .i64 0] 57) none)) (gb_drew _ _)
      have a0 : w2.cell? ⟨bx, 0, none⟩ = some (.int .i64 x0) := blk_cell I.hd 0
      have a1 : w2.cell? ⟨bx, 1, none⟩ = some (.int .i64 1) := blk_cell I.hd 1
      have a2 : w2.cell? ⟨bx, 2, none⟩ = some (.int .i64 x2) := blk_cell I.hd 2
      have a3 : w2.cell? ⟨bx, 3, none⟩ = some (.int .i64 0) := blk_cell I.hd 3
      have a4 : w2.cell? ⟨bx, 4, none⟩ = some (.int .i64 0) := blk_cell I.hd 4
      have a5 : w2.cell? ⟨bx, 5, none⟩ = some (.int .i64 0) := blk_cell I.hd 5
      have a6 : w2.cell? ⟨bx, 6, none⟩ = some (.int .i64 0) := blk_cell I.hd 6
      have a7 : w2.cell? ⟨bx, 7, none⟩ = some (.int .i64 0) := blk_cell I.hd 7
      have a8 : w2.cell? ⟨bx, 8, none⟩ = some (.int .i64 0) := blk_cell I.hd 8
      have a9 : w2.cell? ⟨bx, 9, none⟩ = some (.int .i64 0) := blk_cell I.hd 9
      have a10 : w2.cell? ⟨bx, 10, none⟩ = some (.bool false) := blk_cell I.hd 10
      have a11 : w2.cell? ⟨bx, 11, none⟩ = some (.bool false) := blk_cell I.hd 11
      have a12 : w2.cell? ⟨bx, 12, none⟩ = some (.int .i64 0) := blk_cell I.hd 12
      have a13 : w2.cell? ⟨bx, 13, none⟩ = some (.int .i64 0) := blk_cell I.hd 13
      have fa3 := blk_free I.hd 3
      have fa4 := blk_free I.hd 4
      have fa5 := blk_free I.hd 5
      have fa6 := blk_free I.hd 6
      have fa7 := blk_free I.hd 7
      have HRI := Lib.hid I
      have HRES := Lib.hid I.res
      have HGB := Lib.hid I.gb
      have hlx := blk_lt I.hd
      clear I
      go_upto_region 12 with fail
      refine wp_region_held_drew (S := fun _ => True) (by kernel_rfl) ?_ (fun hHeld => ?_)
      · first | exact trivial | go_keep
      refine wpAnyH_take (i := 0) (oi := { dst := some 65, op := Go.Op.move (Go.Operand.tmp 0), type := 9, pos := "ref.go:40", after := #[], guard := none }) (v := ?v0_23) rfl (by kernel_rfl) (by kernel_rfl) (by kernel_rfl) (fun _ _ _ h => h) (Or.inl ⟨by rfl, ?hy0_23⟩) (by assumption) ?rest0_23
      case hy0_23 =>
        intro w' hSw
        try dsimp only at hSw
        go_simp
        try with_reducible rfl
      try simp only [Act.put, List.setIfInBounds_toArray, List.set_cons_zero, List.set_cons_succ]
      refine wpAnyH_take (i := 1) (oi := { dst := some 66, op := Go.Op.slice 9 (Go.Operand.tmp 65) (some (Go.Operand.const (Go.Value.int Go.IntKind.i64 3))) (some (Go.Operand.const (Go.Value.int Go.IntKind.i64 5))) none, type := 9, pos := "ref.go:40", after := #[{ on := 0, ground := Go.Ground.data }], guard := none }) (v := ?v1_24) rfl (by kernel_rfl) (by kernel_rfl) (by kernel_rfl) (fun _ _ _ h => h) (Or.inl ⟨by rfl, ?hy1_24⟩) (by assumption) ?rest1_24
      case hy1_24 =>
        intro w' hSw
        try dsimp only at hSw
        go_simp
        try with_reducible rfl
      try simp only [Act.put, List.setIfInBounds_toArray, List.set_cons_zero, List.set_cons_succ]
      refine wpAnyH_take (i := 3) (oi := { dst := some 68, op := Go.Op.move (Go.Operand.tmp 0), type := 9, pos := "ref.go:40", after := #[], guard := none }) (v := ?v3_25) rfl (by kernel_rfl) (by kernel_rfl) (by kernel_rfl) (fun _ _ _ h => h) (Or.inl ⟨by rfl, ?hy3_25⟩) (by assumption) ?rest3_25
      case hy3_25 =>
        intro w' hSw
        try dsimp only at hSw
        go_simp
        try with_reducible rfl
      try simp only [Act.put, List.setIfInBounds_toArray, List.set_cons_zero, List.set_cons_succ]
      refine wpAnyH_take (i := 4) (oi := { dst := some 69, op := Go.Op.slice 9 (Go.Operand.tmp 68) (some (Go.Operand.const (Go.Value.int Go.IntKind.i64 5))) (some (Go.Operand.const (Go.Value.int Go.IntKind.i64 7))) none, type := 9, pos := "ref.go:40", after := #[{ on := 3, ground := Go.Ground.data }], guard := none }) (v := ?v4_26) rfl (by kernel_rfl) (by kernel_rfl) (by kernel_rfl) (fun _ _ _ h => h) (Or.inl ⟨by rfl, ?hy4_26⟩) (by assumption) ?rest4_26
      case hy4_26 =>
        intro w' hSw
        try dsimp only at hSw
        go_simp
        try with_reducible rfl
      try simp only [Act.put, List.setIfInBounds_toArray, List.set_cons_zero, List.set_cons_succ]
      refine wpAnyH_take (i := 6) (oi := { dst := some 71, op := Go.Op.move (Go.Operand.tmp 0), type := 9, pos := "ref.go:40", after := #[{ on := 12, ground := Go.Ground.gcOnly Go.Departure.lateStores }], guard := none }) (v := ?v6_27) rfl (by kernel_rfl) (by kernel_rfl) (by kernel_rfl) (fun _ _ _ h => h) (Or.inl ⟨by rfl, ?hy6_27⟩) (by assumption) ?rest6_27
      case hy6_27 =>
        intro w' hSw
        try dsimp only at hSw
        go_simp
        try with_reducible rfl
      try simp only [Act.put, List.setIfInBounds_toArray, List.set_cons_zero, List.set_cons_succ]
      refine wpAnyH_take (i := 7) (oi := { dst := some 72, op := Go.Op.index 9 (Go.Operand.tmp 71) (Go.Operand.const (Go.Value.int Go.IntKind.i64 7)), type := 5, pos := "ref.go:40", after := #[{ on := 6, ground := Go.Ground.data }, { on := 12, ground := Go.Ground.gcOnly Go.Departure.lateStores }], guard := none }) (v := ?v7_28) rfl (by kernel_rfl) (by kernel_rfl) (by kernel_rfl) (fun _ _ _ h => h) (Or.inl ⟨by rfl, ?hy7_28⟩) (by assumption) ?rest7_28
      case hy7_28 =>
        intro w' hSw
        try dsimp only at hSw
        go_simp
        try with_reducible rfl
      try simp only [Act.put, List.setIfInBounds_toArray, List.set_cons_zero, List.set_cons_succ]
      refine wpAnyH_take (i := 8) (oi := { dst := some 73, op := Go.Op.convert 5 3 (Go.Operand.tmp 72), type := 3, pos := "ref.go:40", after := #[{ on := 7, ground := Go.Ground.data }, { on := 12, ground := Go.Ground.gcOnly Go.Departure.lateStores }], guard := none }) (v := ?v8_29) rfl (by kernel_rfl) (by kernel_rfl) (by kernel_rfl) (fun _ _ _ h => h) (Or.inl ⟨by rfl, ?hy8_29⟩) (by assumption) ?rest8_29
      case hy8_29 =>
        intro w' hSw
        try dsimp only at hSw
        go_simp
        try with_reducible rfl
      try simp only [Act.put, List.setIfInBounds_toArray, List.set_cons_zero, List.set_cons_succ]
      refine wpAnyH_ready (rs := [2]) (by kernel_rfl) (by simp) ?_
      refine AllReadyH.cons (o := { dst := some 67, op := Go.Op.call { callee := Go.Callee.value (Go.Operand.func 47), args := #[Go.Operand.tmp 66], argTypes := #[9] }, type := 3, pos := "ref.go:40", after := #[{ on := 1, ground := Go.Ground.data }], guard := none }) rfl (fun K hK => ?_) AllReadyH.nil
      go_simp
      refine (KLA.out _).mono ?_
      rintro e w' ⟨rfl, rfl⟩
      try go_wp2_with fail
      refine hK.out _ _ ?_ (fun hHeld2 => ?_)
      · first | exact trivial | go_keep
      clear hHeld
      have hHeld := hHeld2
      clear hK K hHeld2
      try simp only [Act.put, List.setIfInBounds_toArray, List.set_cons_zero, List.set_cons_succ]
      refine wpAnyH_take (i := 9) (oi := { dst := some 74, op := Go.Op.fieldAddr 57 (Go.Operand.tmp 4) 3, type := 0, pos := "ref.go:40", after := #[{ on := 0, ground := Go.Ground.phase }, { on := 1, ground := Go.Ground.phase }, { on := 2, ground := Go.Ground.phase }, { on := 3, ground := Go.Ground.textOnly Go.Departure.lateStores }, { on := 4, ground := Go.Ground.textOnly Go.Departure.lateStoresUnsure }, { on := 5, ground := Go.Ground.textOnly Go.Departure.lateStoresUnsure }, { on := 6, ground := Go.Ground.textOnly Go.Departure.lateStores }, { on := 7, ground := Go.Ground.textOnly Go.Departure.lateStores }, { on := 8, ground := Go.Ground.textOnly Go.Departure.lateStores }], guard := none }) (v := ?v9_30) rfl (by kernel_rfl) (by kernel_rfl) (by kernel_rfl) (fun _ _ _ h => h) (Or.inl ⟨by rfl, ?hy9_30⟩) (by assumption) ?rest9_30
      case hy9_30 =>
        intro w' hSw
        try dsimp only at hSw
        go_simp
        try with_reducible rfl
      try simp only [Act.put, List.setIfInBounds_toArray, List.set_cons_zero, List.set_cons_succ]
      refine wpAnyH_ready (rs := [5]) (by kernel_rfl) (by simp) ?_
      refine AllReadyH.cons (o := { dst := some 70, op := Go.Op.call { callee := Go.Callee.value (Go.Operand.func 47), args := #[Go.Operand.tmp 69], argTypes := #[9] }, type := 3, pos := "ref.go:40", after := #[{ on := 4, ground := Go.Ground.data }, { on := 2, ground := Go.Ground.chain }], guard := none }) rfl (fun K hK => ?_) AllReadyH.nil
      go_simp
      refine (KLB.out _).mono ?_
      rintro e w' ⟨rfl, rfl⟩
      try go_wp2_with fail
      refine hK.out _ _ ?_ (fun hHeld2 => ?_)
      · first | exact trivial | go_keep
      clear hHeld
      have hHeld := hHeld2
      clear hK K hHeld2
      try simp only [Act.put, List.setIfInBounds_toArray, List.set_cons_zero, List.set_cons_succ]
      refine wpAnyH_ready (rs := [10]) (by kernel_rfl) (by simp) ?_
      refine AllReadyH.cons (o := { dst := none, op := Go.Op.store 3 (Go.Operand.tmp 74) (Go.Operand.tmp 67), type := 0, pos := "ref.go:40", after := #[{ on := 9, ground := Go.Ground.data }, { on := 2, ground := Go.Ground.data }, { on := 5, ground := Go.Ground.chain }, { on := 0, ground := Go.Ground.phase }, { on := 1, ground := Go.Ground.phase }, { on := 2, ground := Go.Ground.phase }, { on := 3, ground := Go.Ground.textOnly Go.Departure.lateStores }, { on := 4, ground := Go.Ground.textOnly Go.Departure.lateStoresUnsure }, { on := 5, ground := Go.Ground.textOnly Go.Departure.lateStoresUnsure }, { on := 6, ground := Go.Ground.textOnly Go.Departure.lateStores }, { on := 7, ground := Go.Ground.textOnly Go.Departure.lateStores }, { on := 8, ground := Go.Ground.textOnly Go.Departure.lateStores }], guard := none }) rfl (fun K hK => ?_) AllReadyH.nil
      go_simp
      refine hK.out _ _ ?_ (fun hHeld2 => ?_)
      · first | exact trivial | go_keep
      clear hHeld
      have hHeld := hHeld2
      clear hK K hHeld2
      try simp only [Act.put, List.setIfInBounds_toArray, List.set_cons_zero, List.set_cons_succ]
      refine wpAnyH_take (i := 11) (oi := { dst := some 75, op := Go.Op.fieldAddr 57 (Go.Operand.tmp 4) 4, type := 0, pos := "ref.go:40", after := #[{ on := 0, ground := Go.Ground.phase }, { on := 1, ground := Go.Ground.phase }, { on := 2, ground := Go.Ground.phase }, { on := 3, ground := Go.Ground.phase }, { on := 4, ground := Go.Ground.phase }, { on := 5, ground := Go.Ground.phase }, { on := 6, ground := Go.Ground.textOnly Go.Departure.lateStores }, { on := 7, ground := Go.Ground.textOnly Go.Departure.lateStores }, { on := 8, ground := Go.Ground.textOnly Go.Departure.lateStores }, { on := 9, ground := Go.Ground.phase }, { on := 10, ground := Go.Ground.phase }], guard := none }) (v := ?v11_31) rfl (by kernel_rfl) (by kernel_rfl) (by kernel_rfl) (fun _ _ _ h => h) (Or.inl ⟨by rfl, ?hy11_31⟩) (by assumption) ?rest11_31
      case hy11_31 =>
        intro w' hSw
        try dsimp only at hSw
        go_simp
        try with_reducible rfl
      try simp only [Act.put, List.setIfInBounds_toArray, List.set_cons_zero, List.set_cons_succ]
      refine wpAnyH_ready (rs := [12]) (by kernel_rfl) (by simp) ?_
      refine AllReadyH.cons (o := { dst := none, op := Go.Op.store 3 (Go.Operand.tmp 75) (Go.Operand.tmp 70), type := 0, pos := "ref.go:40", after := #[{ on := 11, ground := Go.Ground.data }, { on := 5, ground := Go.Ground.data }, { on := 10, ground := Go.Ground.chain }, { on := 0, ground := Go.Ground.phase }, { on := 1, ground := Go.Ground.phase }, { on := 2, ground := Go.Ground.phase }, { on := 3, ground := Go.Ground.phase }, { on := 4, ground := Go.Ground.phase }, { on := 5, ground := Go.Ground.phase }, { on := 6, ground := Go.Ground.textOnly Go.Departure.lateStores }, { on := 7, ground := Go.Ground.textOnly Go.Departure.lateStores }, { on := 8, ground := Go.Ground.textOnly Go.Departure.lateStores }, { on := 9, ground := Go.Ground.phase }, { on := 10, ground := Go.Ground.phase }], guard := none }) rfl (fun K hK => ?_) AllReadyH.nil
      go_simp
      refine hK.out _ _ ?_ (fun hHeld2 => ?_)
      · first | exact trivial | go_keep
      clear hHeld
      have hHeld := hHeld2
      clear hK K hHeld2
      try simp only [Act.put, List.setIfInBounds_toArray, List.set_cons_zero, List.set_cons_succ]
      refine wpAnyH_take (i := 13) (oi := { dst := some 76, op := Go.Op.fieldAddr 57 (Go.Operand.tmp 4) 5, type := 0, pos := "ref.go:40", after := #[{ on := 0, ground := Go.Ground.phase }, { on := 1, ground := Go.Ground.phase }, { on := 2, ground := Go.Ground.phase }, { on := 3, ground := Go.Ground.phase }, { on := 4, ground := Go.Ground.phase }, { on := 5, ground := Go.Ground.phase }, { on := 6, ground := Go.Ground.phase }, { on := 7, ground := Go.Ground.phase }, { on := 8, ground := Go.Ground.phase }, { on := 9, ground := Go.Ground.phase }, { on := 10, ground := Go.Ground.phase }, { on := 11, ground := Go.Ground.phase }, { on := 12, ground := Go.Ground.phase }], guard := none }) (v := ?v13_32) rfl (by kernel_rfl) (by kernel_rfl) (by kernel_rfl) (fun _ _ _ h => h) (Or.inl ⟨by rfl, ?hy13_32⟩) (by assumption) ?rest13_32
      case hy13_32 =>
        intro w' hSw
        try dsimp only at hSw
        go_simp
        try with_reducible rfl
      try simp only [Act.put, List.setIfInBounds_toArray, List.set_cons_zero, List.set_cons_succ]
      refine wpAnyH_ready (rs := [14]) (by kernel_rfl) (by simp) ?_
      refine AllReadyH.cons (o := { dst := none, op := Go.Op.store 3 (Go.Operand.tmp 76) (Go.Operand.tmp 73), type := 0, pos := "ref.go:40", after := #[{ on := 13, ground := Go.Ground.data }, { on := 8, ground := Go.Ground.data }, { on := 12, ground := Go.Ground.chain }, { on := 0, ground := Go.Ground.phase }, { on := 1, ground := Go.Ground.phase }, { on := 2, ground := Go.Ground.phase }, { on := 3, ground := Go.Ground.phase }, { on := 4, ground := Go.Ground.phase }, { on := 5, ground := Go.Ground.phase }, { on := 6, ground := Go.Ground.phase }, { on := 7, ground := Go.Ground.phase }, { on := 8, ground := Go.Ground.phase }, { on := 9, ground := Go.Ground.phase }, { on := 10, ground := Go.Ground.phase }, { on := 11, ground := Go.Ground.phase }, { on := 12, ground := Go.Ground.phase }], guard := none }) rfl (fun K hK => ?_) AllReadyH.nil
      go_simp
      refine hK.out _ _ ?_ (fun hHeld2 => ?_)
      · first | exact trivial | go_keep
      clear hHeld
      have hHeld := hHeld2
      clear hK K hHeld2
      try simp only [Act.put, List.setIfInBounds_toArray, List.set_cons_zero, List.set_cons_succ]
      refine wpAnyH_done (by kernel_rfl) ?_ _
      refine abs_w (R := RI W bx #[.int .i64 x0, .int .i64 1, .int .i64 x2, .int .i64 A, .int .i64 B, .int .i64 x7, .int .i64 0, .int .i64 0, .int .i64 0, .int .i64 0, .bool false, .bool false, .int .i64 0, .int .i64 0]) ?_ (fun w3 I => ?_)
      · refine ⟨?_, ?_, HEB.out, ?_⟩
        · exact blk_other (blk_other (blk_other HRES.out HNE.out) HNE.out) HNE.out
        · exact blk_set (blk_set (blk_set HRI.out.hd 3 (.int .i64 A)) 4 (.int .i64 B)) 5 (.int .i64 x7)
        · exact gb_trans (gb_own (gb_own (gb_own HGB.out HLE.out (gb_set _ _ _ _)) HLE.out (gb_set _ _ _ _)) HLE.out (gb_set _ _ _ _)) (gb_drew _ _)
      clear a0 a1 a2 a3 a4 a5 a6 a7 a8 a9 a10 a11 a12 a13
      clear fa3 fa4 fa5 fa6 fa7 HRI HRES HGB hlx
      have a0 : w3.cell? ⟨bx, 0, none⟩ = some (.int .i64 x0) := blk_cell I.hd 0
      have a1 : w3.cell? ⟨bx, 1, none⟩ = some (.int .i64 1) := blk_cell I.hd 1
      have a2 : w3.cell? ⟨bx, 2, none⟩ = some (.int .i64 x2) := blk_cell I.hd 2
      have a3 : w3.cell? ⟨bx, 3, none⟩ = some (.int .i64 A) := blk_cell I.hd 3
      have a4 : w3.cell? ⟨bx, 4, none⟩ = some (.int .i64 B) := blk_cell I.hd 4
      have a5 : w3.cell? ⟨bx, 5, none⟩ = some (.int .i64 x7) := blk_cell I.hd 5
      have a6 : w3.cell? ⟨bx, 6, none⟩ = some (.int .i64 0) := blk_cell I.hd 6
      have a7 : w3.cell? ⟨bx, 7, none⟩ = some (.int .i64 0) := blk_cell I.hd 7
      have a8 : w3.cell? ⟨bx, 8, none⟩ = some (.int .i64 0) := blk_cell I.hd 8
      have a9 : w3.cell? ⟨bx, 9, none⟩ = some (.int .i64 0) := blk_cell I.hd 9
      have a10 : w3.cell? ⟨bx, 10, none⟩ = some (.bool false) := blk_cell I.hd 10
      have a11 : w3.cell? ⟨bx, 11, none⟩ = some (.bool false) := blk_cell I.hd 11
      have a12 : w3.cell? ⟨bx, 12, none⟩ = some (.int .i64 0) := blk_cell I.hd 12
      have a13 : w3.cell? ⟨bx, 13, none⟩ = some (.int .i64 0) := blk_cell I.hd 13
      have fa6 := blk_free I.hd 6
      have fa7 := blk_free I.hd 7
      have HRI := Lib.hid I
      have HRES := Lib.hid I.res
      have HGB := Lib.hid I.gb
      have hlx := blk_lt I.hd
      clear I
      go_upto_region 13 with fail
      have KC7 := Lib.hid (fun u => rcolor_calls x7 u)
      by_cases hKk : K = 3
      · have hck : ck s 3 = true := hKk ▸ HC.out.yes
        have hc7 : colB x7 = false := by have h := hck; simp only [ck, HMP.out, HX7.out] at h; simpa using h
        rw [hc7] at KC7
        clear hck hc7
        go_wp2_with fail
        refine (KC7.out _).mono ?_
        rintro e w' ⟨rfl, rfl⟩
        have E := Lib.hid (show RV = #[.int .i64 0, .int .i64 0, .int .i64 0, .int .i64 0, .int .i64 0, .int .i64 0, .int .i64 0, .int .i64 0, .int .i64 0, .int .i64 0, .bool false, .bool false, .int .i64 3, .int .i64 7] from by rw [← ERV.out, hKk]; rfl)
        have KB := Lib.hid (fun u => bad_calls 3 7 u)
        go_wp2_with fail
        refine (KB.out _).mono ?_
        rintro e w9 ⟨rfl, g9⟩
        have B9 := old0 g9 HRES.out (blk_lt HRES.out) (by simp)
        have r0 : w9.cell? ⟨W.heap.size, 0, none⟩ = some (.int .i64 0) := blk_cell B9 0
        have rf0 := blk_free B9 0
        have r1 : w9.cell? ⟨W.heap.size, 1, none⟩ = some (.int .i64 0) := blk_cell B9 1
        have rf1 := blk_free B9 1
        have r2 : w9.cell? ⟨W.heap.size, 2, none⟩ = some (.int .i64 0) := blk_cell B9 2
        have rf2 := blk_free B9 2
        have r3 : w9.cell? ⟨W.heap.size, 3, none⟩ = some (.int .i64 0) := blk_cell B9 3
        have rf3 := blk_free B9 3
        have r4 : w9.cell? ⟨W.heap.size, 4, none⟩ = some (.int .i64 0) := blk_cell B9 4
        have rf4 := blk_free B9 4
        have r5 : w9.cell? ⟨W.heap.size, 5, none⟩ = some (.int .i64 0) := blk_cell B9 5
        have rf5 := blk_free B9 5
        have r6 : w9.cell? ⟨W.heap.size, 6, none⟩ = some (.int .i64 0) := blk_cell B9 6
        have rf6 := blk_free B9 6
        have r7 : w9.cell? ⟨W.heap.size, 7, none⟩ = some (.int .i64 0) := blk_cell B9 7
        have rf7 := blk_free B9 7
        have r8 : w9.cell? ⟨W.heap.size, 8, none⟩ = some (.int .i64 0) := blk_cell B9 8
        have rf8 := blk_free B9 8
        have r9 : w9.cell? ⟨W.heap.size, 9, none⟩ = some (.int .i64 0) := blk_cell B9 9
        have rf9 := blk_free B9 9
        have r10 : w9.cell? ⟨W.heap.size, 10, none⟩ = some (.bool false) := blk_cell B9 10
        have rf10 := blk_free B9 10
        have r11 : w9.cell? ⟨W.heap.size, 11, none⟩ = some (.bool false) := blk_cell B9 11
        have rf11 := blk_free B9 11
        have r12 : w9.cell? ⟨W.heap.size, 12, none⟩ = some (.int .i64 0) := blk_cell B9 12
        have rf12 := blk_free B9 12
        have r13 : w9.cell? ⟨W.heap.size, 13, none⟩ = some (.int .i64 0) := blk_cell B9 13
        have rf13 := blk_free B9 13
        have hlr := blk_lt B9
        have G9 := Lib.hid (gb_trans HGB.out g9)
        clear g9 B9 KB
        go_wp2
        refine bodyPost_ret (v := .agg #[.int .i64 0, .int .i64 0, .int .i64 0, .int .i64 0, .int .i64 0, .int .i64 0, .int .i64 0, .int .i64 0, .int .i64 0, .int .i64 0, .bool false, .bool false, .int .i64 3, .int .i64 7]) (by simp only [results, Tryz.results22]; go_simp) rfl ⟨by rw [E.out], ?_⟩
        exact gb_own (gb_own (gb_own (gb_own (gb_own (gb_own (gb_own (gb_own (gb_own (gb_own (gb_own (gb_own (gb_own (gb_own (G9.out) (Nat.le_refl _) (gb_set _ _ _ _)) (Nat.le_refl _) (gb_set _ _ _ _)) (Nat.le_refl _) (gb_set _ _ _ _)) (Nat.le_refl _) (gb_set _ _ _ _)) (Nat.le_refl _) (gb_set _ _ _ _)) (Nat.le_refl _) (gb_set _ _ _ _)) (Nat.le_refl _) (gb_set _ _ _ _)) (Nat.le_refl _) (gb_set _ _ _ _)) (Nat.le_refl _) (gb_set _ _ _ _)) (Nat.le_refl _) (gb_set _ _ _ _)) (Nat.le_refl _) (gb_set _ _ _ _)) (Nat.le_refl _) (gb_set _ _ _ _)) (Nat.le_refl _) (gb_set _ _ _ _)) (Nat.le_refl _) (gb_set _ _ _ _)
      have hck : ck s 3 = false := HC.out.no 3 (by have h0 := hk0.out; have h1 := hk1.out; have h2 := hk2.out; omega)
      have hk3 := Lib.hid hKk
      have hc7 : colB x7 = true := by have h := hck; simp only [ck, HMP.out, HX7.out] at h; simpa using h
      rw [hc7] at KC7
      clear hKk hck hc7
      go_wp2_with fail
      refine (KC7.out _).mono ?_
      rintro e w' ⟨rfl, rfl⟩
      go_upto_region 15 with fail
      by_cases hKk : K = 4
      · have hck : ck s 4 = true := hKk ▸ HC.out.yes
        have d4 : B = 0 := by have h := hck; simp only [ck, HMP.out, HB.out] at h; simpa using h
        clear hck
        subst d4
        have E := Lib.hid (show RV = #[.int .i64 0, .int .i64 0, .int .i64 0, .int .i64 0, .int .i64 0, .int .i64 0, .int .i64 0, .int .i64 0, .int .i64 0, .int .i64 0, .bool false, .bool false, .int .i64 2, .int .i64 5] from by rw [← ERV.out, hKk]; rfl)
        have KB := Lib.hid (fun u => bad_calls 2 5 u)
        go_wp2_with fail
        refine (KB.out _).mono ?_
        rintro e w9 ⟨rfl, g9⟩
        have B9 := old0 g9 HRES.out (blk_lt HRES.out) (by simp)
        have r0 : w9.cell? ⟨W.heap.size, 0, none⟩ = some (.int .i64 0) := blk_cell B9 0
        have rf0 := blk_free B9 0
        have r1 : w9.cell? ⟨W.heap.size, 1, none⟩ = some (.int .i64 0) := blk_cell B9 1
        have rf1 := blk_free B9 1
        have r2 : w9.cell? ⟨W.heap.size, 2, none⟩ = some (.int .i64 0) := blk_cell B9 2
        have rf2 := blk_free B9 2
        have r3 : w9.cell? ⟨W.heap.size, 3, none⟩ = some (.int .i64 0) := blk_cell B9 3
        have rf3 := blk_free B9 3
        have r4 : w9.cell? ⟨W.heap.size, 4, none⟩ = some (.int .i64 0) := blk_cell B9 4
        have rf4 := blk_free B9 4
        have r5 : w9.cell? ⟨W.heap.size, 5, none⟩ = some (.int .i64 0) := blk_cell B9 5
        have rf5 := blk_free B9 5
        have r6 : w9.cell? ⟨W.heap.size, 6, none⟩ = some (.int .i64 0) := blk_cell B9 6
        have rf6 := blk_free B9 6
        have r7 : w9.cell? ⟨W.heap.size, 7, none⟩ = some (.int .i64 0) := blk_cell B9 7
        have rf7 := blk_free B9 7
        have r8 : w9.cell? ⟨W.heap.size, 8, none⟩ = some (.int .i64 0) := blk_cell B9 8
        have rf8 := blk_free B9 8
        have r9 : w9.cell? ⟨W.heap.size, 9, none⟩ = some (.int .i64 0) := blk_cell B9 9
        have rf9 := blk_free B9 9
        have r10 : w9.cell? ⟨W.heap.size, 10, none⟩ = some (.bool false) := blk_cell B9 10
        have rf10 := blk_free B9 10
        have r11 : w9.cell? ⟨W.heap.size, 11, none⟩ = some (.bool false) := blk_cell B9 11
        have rf11 := blk_free B9 11
        have r12 : w9.cell? ⟨W.heap.size, 12, none⟩ = some (.int .i64 0) := blk_cell B9 12
        have rf12 := blk_free B9 12
        have r13 : w9.cell? ⟨W.heap.size, 13, none⟩ = some (.int .i64 0) := blk_cell B9 13
        have rf13 := blk_free B9 13
        have hlr := blk_lt B9
        have G9 := Lib.hid (gb_trans HGB.out g9)
        clear g9 B9 KB
        go_wp2
        refine bodyPost_ret (v := .agg #[.int .i64 0, .int .i64 0, .int .i64 0, .int .i64 0, .int .i64 0, .int .i64 0, .int .i64 0, .int .i64 0, .int .i64 0, .int .i64 0, .bool false, .bool false, .int .i64 2, .int .i64 5]) (by simp only [results, Tryz.results22]; go_simp) rfl ⟨by rw [E.out], ?_⟩
        exact gb_own (gb_own (gb_own (gb_own (gb_own (gb_own (gb_own (gb_own (gb_own (gb_own (gb_own (gb_own (gb_own (gb_own (G9.out) (Nat.le_refl _) (gb_set _ _ _ _)) (Nat.le_refl _) (gb_set _ _ _ _)) (Nat.le_refl _) (gb_set _ _ _ _)) (Nat.le_refl _) (gb_set _ _ _ _)) (Nat.le_refl _) (gb_set _ _ _ _)) (Nat.le_refl _) (gb_set _ _ _ _)) (Nat.le_refl _) (gb_set _ _ _ _)) (Nat.le_refl _) (gb_set _ _ _ _)) (Nat.le_refl _) (gb_set _ _ _ _)) (Nat.le_refl _) (gb_set _ _ _ _)) (Nat.le_refl _) (gb_set _ _ _ _)) (Nat.le_refl _) (gb_set _ _ _ _)) (Nat.le_refl _) (gb_set _ _ _ _)) (Nat.le_refl _) (gb_set _ _ _ _)
      have hck : ck s 4 = false := HC.out.no 4 (by have h0 := hk0.out; have h1 := hk1.out; have h2 := hk2.out; have h3 := hk3.out; omega)
      have hk4 := Lib.hid hKk
      have d4 : ((B : Int) == 0) = false := by have h := hck; simp only [ck, HMP.out, HB.out] at h; rw [beq_eq_false_iff_ne]; simp at h; omega
      clear hKk hck
      go_upto_region 17 with fail
      refine wp_region_held_drew (S := fun _ => True) (by kernel_rfl) ?_ (fun hHeld => ?_)
      · first | exact trivial | go_keep
      refine wpAnyH_take (i := 0) (oi := { dst := some 86, op := Go.Op.move (Go.Operand.tmp 0), type := 9, pos := "ref.go:48", after := #[], guard := none }) (v := ?v0_33) rfl (by kernel_rfl) (by kernel_rfl) (by kernel_rfl) (fun _ _ _ h => h) (Or.inl ⟨by rfl, ?hy0_33⟩) (by assumption) ?rest0_33
      case hy0_33 =>
        intro w' hSw
        try dsimp only at hSw
        go_simp
        try with_reducible rfl
      try simp only [Act.put, List.setIfInBounds_toArray, List.set_cons_zero, List.set_cons_succ]
      refine wpAnyH_take (i := 1) (oi := { dst := some 87, op := Go.Op.slice 9 (Go.Operand.tmp 86) (some (Go.Operand.const (Go.Value.int Go.IntKind.i64 12))) (some (Go.Operand.const (Go.Value.int Go.IntKind.i64 14))) none, type := 9, pos := "ref.go:48", after := #[{ on := 0, ground := Go.Ground.data }], guard := none }) (v := ?v1_34) rfl (by kernel_rfl) (by kernel_rfl) (by kernel_rfl) (fun _ _ _ h => h) (Or.inl ⟨by rfl, ?hy1_34⟩) (by assumption) ?rest1_34
      case hy1_34 =>
        intro w' hSw
        try dsimp only at hSw
        go_simp
        try with_reducible rfl
      try simp only [Act.put, List.setIfInBounds_toArray, List.set_cons_zero, List.set_cons_succ]
      refine wpAnyH_take (i := 3) (oi := { dst := some 89, op := Go.Op.move (Go.Operand.tmp 0), type := 9, pos := "ref.go:48", after := #[], guard := none }) (v := ?v3_35) rfl (by kernel_rfl) (by kernel_rfl) (by kernel_rfl) (fun _ _ _ h => h) (Or.inl ⟨by rfl, ?hy3_35⟩) (by assumption) ?rest3_35
      case hy3_35 =>
        intro w' hSw
        try dsimp only at hSw
        go_simp
        try with_reducible rfl
      try simp only [Act.put, List.setIfInBounds_toArray, List.set_cons_zero, List.set_cons_succ]
      refine wpAnyH_take (i := 4) (oi := { dst := some 90, op := Go.Op.slice 9 (Go.Operand.tmp 89) (some (Go.Operand.const (Go.Value.int Go.IntKind.i64 14))) (some (Go.Operand.const (Go.Value.int Go.IntKind.i64 16))) none, type := 9, pos := "ref.go:48", after := #[{ on := 3, ground := Go.Ground.data }], guard := none }) (v := ?v4_36) rfl (by kernel_rfl) (by kernel_rfl) (by kernel_rfl) (fun _ _ _ h => h) (Or.inl ⟨by rfl, ?hy4_36⟩) (by assumption) ?rest4_36
      case hy4_36 =>
        intro w' hSw
        try dsimp only at hSw
        go_simp
        try with_reducible rfl
      try simp only [Act.put, List.setIfInBounds_toArray, List.set_cons_zero, List.set_cons_succ]
      refine wpAnyH_ready (rs := [2]) (by kernel_rfl) (by simp) ?_
      refine AllReadyH.cons (o := { dst := some 88, op := Go.Op.call { callee := Go.Callee.value (Go.Operand.func 47), args := #[Go.Operand.tmp 87], argTypes := #[9] }, type := 3, pos := "ref.go:48", after := #[{ on := 1, ground := Go.Ground.data }], guard := none }) rfl (fun K hK => ?_) AllReadyH.nil
      go_simp
      refine (KLX.out _).mono ?_
      rintro e w' ⟨rfl, rfl⟩
      try go_wp2_with fail
      refine hK.out _ _ ?_ (fun hHeld2 => ?_)
      · first | exact trivial | go_keep
      clear hHeld
      have hHeld := hHeld2
      clear hK K hHeld2
      try simp only [Act.put, List.setIfInBounds_toArray, List.set_cons_zero, List.set_cons_succ]
      refine wpAnyH_take (i := 6) (oi := { dst := some 92, op := Go.Op.fieldAddr 57 (Go.Operand.tmp 4) 6, type := 0, pos := "ref.go:48", after := #[{ on := 0, ground := Go.Ground.phase }, { on := 1, ground := Go.Ground.phase }, { on := 2, ground := Go.Ground.phase }, { on := 3, ground := Go.Ground.textOnly Go.Departure.lateStores }, { on := 4, ground := Go.Ground.textOnly Go.Departure.lateStoresUnsure }, { on := 5, ground := Go.Ground.textOnly Go.Departure.lateStoresUnsure }], guard := none }) (v := ?v6_37) rfl (by kernel_rfl) (by kernel_rfl) (by kernel_rfl) (fun _ _ _ h => h) (Or.inl ⟨by rfl, ?hy6_37⟩) (by assumption) ?rest6_37
      case hy6_37 =>
        intro w' hSw
        try dsimp only at hSw
        go_simp
        try with_reducible rfl
      try simp only [Act.put, List.setIfInBounds_toArray, List.set_cons_zero, List.set_cons_succ]
      refine wpAnyH_ready (rs := [5]) (by kernel_rfl) (by simp) ?_
      refine AllReadyH.cons (o := { dst := some 91, op := Go.Op.call { callee := Go.Callee.value (Go.Operand.func 47), args := #[Go.Operand.tmp 90], argTypes := #[9] }, type := 3, pos := "ref.go:48", after := #[{ on := 4, ground := Go.Ground.data }, { on := 2, ground := Go.Ground.chain }], guard := none }) rfl (fun K hK => ?_) AllReadyH.nil
      go_simp
      refine (KLY.out _).mono ?_
      rintro e w' ⟨rfl, rfl⟩
      try go_wp2_with fail
      refine hK.out _ _ ?_ (fun hHeld2 => ?_)
      · first | exact trivial | go_keep
      clear hHeld
      have hHeld := hHeld2
      clear hK K hHeld2
      try simp only [Act.put, List.setIfInBounds_toArray, List.set_cons_zero, List.set_cons_succ]
      refine wpAnyH_ready (rs := [7]) (by kernel_rfl) (by simp) ?_
      refine AllReadyH.cons (o := { dst := none, op := Go.Op.store 3 (Go.Operand.tmp 92) (Go.Operand.tmp 88), type := 0, pos := "ref.go:48", after := #[{ on := 6, ground := Go.Ground.data }, { on := 2, ground := Go.Ground.data }, { on := 5, ground := Go.Ground.chain }, { on := 0, ground := Go.Ground.phase }, { on := 1, ground := Go.Ground.phase }, { on := 2, ground := Go.Ground.phase }, { on := 3, ground := Go.Ground.textOnly Go.Departure.lateStores }, { on := 4, ground := Go.Ground.textOnly Go.Departure.lateStoresUnsure }, { on := 5, ground := Go.Ground.textOnly Go.Departure.lateStoresUnsure }], guard := none }) rfl (fun K hK => ?_) AllReadyH.nil
      go_simp
      refine hK.out _ _ ?_ (fun hHeld2 => ?_)
      · first | exact trivial | go_keep
      clear hHeld
      have hHeld := hHeld2
      clear hK K hHeld2
      try simp only [Act.put, List.setIfInBounds_toArray, List.set_cons_zero, List.set_cons_succ]
      refine wpAnyH_take (i := 8) (oi := { dst := some 93, op := Go.Op.fieldAddr 57 (Go.Operand.tmp 4) 7, type := 0, pos := "ref.go:48", after := #[{ on := 0, ground := Go.Ground.phase }, { on := 1, ground := Go.Ground.phase }, { on := 2, ground := Go.Ground.phase }, { on := 3, ground := Go.Ground.phase }, { on := 4, ground := Go.Ground.phase }, { on := 5, ground := Go.Ground.phase }, { on := 6, ground := Go.Ground.phase }, { on := 7, ground := Go.Ground.phase }], guard := none }) (v := ?v8_38) rfl (by kernel_rfl) (by kernel_rfl) (by kernel_rfl) (fun _ _ _ h => h) (Or.inl ⟨by rfl, ?hy8_38⟩) (by assumption) ?rest8_38
      case hy8_38 =>
        intro w' hSw
        try dsimp only at hSw
        go_simp
        try with_reducible rfl
      try simp only [Act.put, List.setIfInBounds_toArray, List.set_cons_zero, List.set_cons_succ]
      refine wpAnyH_ready (rs := [9]) (by kernel_rfl) (by simp) ?_
      refine AllReadyH.cons (o := { dst := none, op := Go.Op.store 3 (Go.Operand.tmp 93) (Go.Operand.tmp 91), type := 0, pos := "ref.go:48", after := #[{ on := 8, ground := Go.Ground.data }, { on := 5, ground := Go.Ground.data }, { on := 7, ground := Go.Ground.chain }, { on := 0, ground := Go.Ground.phase }, { on := 1, ground := Go.Ground.phase }, { on := 2, ground := Go.Ground.phase }, { on := 3, ground := Go.Ground.phase }, { on := 4, ground := Go.Ground.phase }, { on := 5, ground := Go.Ground.phase }, { on := 6, ground := Go.Ground.phase }, { on := 7, ground := Go.Ground.phase }], guard := none }) rfl (fun K hK => ?_) AllReadyH.nil
      go_simp
      refine hK.out _ _ ?_ (fun hHeld2 => ?_)
      · first | exact trivial | go_keep
      clear hHeld
      have hHeld := hHeld2
      clear hK K hHeld2
      try simp only [Act.put, List.setIfInBounds_toArray, List.set_cons_zero, List.set_cons_succ]
      refine wpAnyH_done (by kernel_rfl) ?_ _
      refine abs_w (R := RI W bx #[.int .i64 x0, .int .i64 1, .int .i64 x2, .int .i64 A, .int .i64 B, .int .i64 x7, .int .i64 X, .int .i64 Y, .int .i64 0, .int .i64 0, .bool false, .bool false, .int .i64 0, .int .i64 0]) ?_ (fun w4 I => ?_)
      · refine ⟨?_, ?_, HEB.out, ?_⟩
        · exact blk_other (blk_other HRES.out HNE.out) HNE.out
        · exact blk_set (blk_set HRI.out.hd 6 (.int .i64 X)) 7 (.int .i64 Y)
        · exact gb_trans (gb_own (gb_own HGB.out HLE.out (gb_set _ _ _ _)) HLE.out (gb_set _ _ _ _)) (gb_drew _ _)
      clear a0 a1 a2 a3 a4 a5 a6 a7 a8 a9 a10 a11 a12 a13
      clear fa6 fa7 HRI HRES HGB hlx d4
      have a0 : w4.cell? ⟨bx, 0, none⟩ = some (.int .i64 x0) := blk_cell I.hd 0
      have a1 : w4.cell? ⟨bx, 1, none⟩ = some (.int .i64 1) := blk_cell I.hd 1
      have a2 : w4.cell? ⟨bx, 2, none⟩ = some (.int .i64 x2) := blk_cell I.hd 2
      have a3 : w4.cell? ⟨bx, 3, none⟩ = some (.int .i64 A) := blk_cell I.hd 3
      have a4 : w4.cell? ⟨bx, 4, none⟩ = some (.int .i64 B) := blk_cell I.hd 4
      have a5 : w4.cell? ⟨bx, 5, none⟩ = some (.int .i64 x7) := blk_cell I.hd 5
      have a6 : w4.cell? ⟨bx, 6, none⟩ = some (.int .i64 X) := blk_cell I.hd 6
      have a7 : w4.cell? ⟨bx, 7, none⟩ = some (.int .i64 Y) := blk_cell I.hd 7
      have a8 : w4.cell? ⟨bx, 8, none⟩ = some (.int .i64 0) := blk_cell I.hd 8
      have a9 : w4.cell? ⟨bx, 9, none⟩ = some (.int .i64 0) := blk_cell I.hd 9
      have a10 : w4.cell? ⟨bx, 10, none⟩ = some (.bool false) := blk_cell I.hd 10
      have a11 : w4.cell? ⟨bx, 11, none⟩ = some (.bool false) := blk_cell I.hd 11
      have a12 : w4.cell? ⟨bx, 12, none⟩ = some (.int .i64 0) := blk_cell I.hd 12
      have a13 : w4.cell? ⟨bx, 13, none⟩ = some (.int .i64 0) := blk_cell I.hd 13
      have fa8 := blk_free I.hd 8
      have HRI := Lib.hid I
      have HRES := Lib.hid I.res
      have HGB := Lib.hid I.gb
      have hlx := blk_lt I.hd
      clear I
      go_upto_region 18 with fail
      have I := HRI.out
      exact from18 s K RV x0 x2 x7 x16 x17 A B X Y al 1 A B x7 lf tp W h18 hm HC.out (by have h0 := hk0.out; have h1 := hk1.out; have h2 := hk2.out; have h3 := hk3.out; have h4 := hk4.out; omega) ERV.out H0.out HX2.out HX7.out HX16.out HX17.out HA.out HB.out HX.out HY.out HAL.out HLF.out HTP.out HGOOD.out bx w4 I _ _ _ _ _ _ _ _ _ _ _ _ _ _ _ _ _ _ _ _ _ _ _ _ _ _ _ _ _ _ _ _ _ _ _ _ _ _ _ _ _ _ _ _ _ _ _ _ _ _ _ _ _ _ _ _ _ _ _ _ _ _ _ _ _ _ _ _ _ _ _ _ _ _ _ _ _ _ _ _ _ _ _ _ _ _ _ _ _ _ _ _ _ _ _ _ _ _ _ _ _ _ _ _ _ _ _ _ _ _ _ _ _ _ _ _ _ _ _ _ _ _ _ _ _ _ _ _ _ _ _ _ _ _ _ _ _ _ _ _ _ _ _ _ _ _ _ _ _ _ _ _ _ _ _ _ _ _ _ _ _ _ _ _ _ _ _ _ _ _ _ _ _ _ _ _ _ _ _ _ _ _ _ (by assumption) (by assumption)


end Go.Proofs.YtnieeckdldpebaaGreat.Tg
