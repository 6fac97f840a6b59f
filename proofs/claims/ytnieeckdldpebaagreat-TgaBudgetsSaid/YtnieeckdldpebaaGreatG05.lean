/- Texts of one kind, one behind the other: TgaS1, TgaSn. -/
import Derived.Deep.Cut
import Derived.Test.YtnieeckdldpebaaGreatG04
/- The document's Read of a head: from the width's test on (written by tga7c.py). -/
namespace Go.Proofs.YtnieeckdldpebaaGreat.Tg
open Go.ChangeShapes Go.WideShapes Go.ChangeAt Go.RowKit
open Go.Proofs.YtnieeckdldpebaaGreat.Le Go.Proofs.YtnieeckdldpebaaGreat.Sr
set_option linter.unusedVariables false

set_option maxRecDepth 100000 in
set_option maxHeartbeats 16000000 in
theorem from18 (s : ByteArray) (K : Nat) (RV : Array Value) (x0 x2 x7 x16 x17 A B X Y al : Nat) (n1 fA fB f7 : Int) (lf tp : Bool) (W : World) (h18 : 18 ≤ s.size) (hm : s.size ≤ 9223372036854775807) (C : Ck s K) (lo : 5 ≤ K) (hRV : rV s K = RV)
    (e0 : bn s 0 = x0) (e2 : bn s 2 = x2) (e7 : bn s 7 = x7) (e16 : bn s 16 = x16) (e17 : bn s 17 = x17) (eA : wd s 3 = A) (eB : wd s 5 = B) (eX : wd s 12 = X) (eY : wd s 14 = Y) (eal : x17 % 16 = al) (elf : lft s = lf) (etp : tpp s = tp)
    (hgood : rV s 12 = #[.int .i64 x0, .int .i64 n1, .int .i64 x2, .int .i64 fA, .int .i64 fB, .int .i64 f7, .int .i64 X, .int .i64 Y, .int .i64 x16, .int .i64 al, .bool lf, .bool tp, .int .i64 0, .int .i64 0]) (bx : Nat) (w5 : World) (I : RI W bx #[.int .i64 x0, .int .i64 n1, .int .i64 x2, .int .i64 fA, .int .i64 fB, .int .i64 f7, .int .i64 X, .int .i64 Y, .int .i64 0, .int .i64 0, .bool false, .bool false, .int .i64 0, .int .i64 0] w5) (u5 : Value)
    (u6 u7 u8 u9 u10 u11 u12 u13 u14 u15 u16 u17 u18 u19 u20 u21 u22 u23 u24 u25 u26 u27 u28 u29 u30 u31 u32 u33 u34 u35 u36 u37 u38 u39 u40 u41 u42 u43 u44 u45 u46 u47 u48 u49 u50 u51 u52 u53 u54 u55 u56 u57 u58 u59 u60 u61 u62 u63 u64 u65 u66 u67 u68 u69 u70 u71 u72 u73 u74 u75 u76 u77 u78 u79 u80 u81 u82 u83 u84 u85 u86 u87 u88 u89 u90 u91 u92 u93 u94 u95 u96 u97 u98 u99 u100 u101 u102 u103 u104 u105 u106 u107 u108 u109 u110 u111 u112 u113 u114 u115 u116 u117 u118 u119 u120 u121 u122 u123 u124 u125 u126 u127 u128 u129 u130 u131 u132 u133 u134 u135 u136 u137 u138 u139 u140 u141 u142 u143 u144 u145 u146 u147 u148 u149 u150 u151 u152 u153 u154 u155 u156 u157 u158 u159 u160 u161 u162 u163 u164 u165 u166 u167 u168 u169 u170 u171 u172 u173 u174 u175 u176 u177 u178 u179 u180 u181 u182 u183 u184 u185 : Value) (K1 K2 : Act → World → Prop) (k1 : ∀ a w, Code.wp Tryz.prog (tl7 (hd7 (tl7 (tl7 (tl7 (tl7 (tl7 (tl7 (tl7 (tl7 (tl7 (bd7)))))))))))) (Exit.then K2 (bodyPost Tryz.prog Tryz.f22 (fun e w' => e = .returned (.agg RV) ∧ W.grownBy w' none))) a w → K1 a w) (k2 : ∀ a w, Code.wp Tryz.prog (tl7 (tl7 (tl7 (tl7 (tl7 (tl7 (tl7 (tl7 (tl7 (tl7 (bd7))))))))))) (bodyPost Tryz.prog Tryz.f22 (fun e w' => e = .returned (.agg RV) ∧ W.grownBy w' none)) a w → K2 a w) :
    Code.wp Tryz.prog (hd7 (hd7 (tl7 (tl7 (tl7 (tl7 (tl7 (tl7 (tl7 (tl7 (tl7 (bd7)))))))))))) (Exit.then K1 (Exit.then K2 (bodyPost Tryz.prog Tryz.f22 (fun e w' => e = .returned (.agg RV) ∧ W.grownBy w' none)))) { tmps := #[.string s, undef, .pointer (some ⟨W.heap.size, 0, none⟩), .int .i64 x2, .pointer (some ⟨bx, 0, none⟩), u5, u6, u7, u8, u9, u10, u11, u12, u13, u14, u15, u16, u17, u18, u19, u20, u21, u22, u23, u24, u25, u26, u27, u28, u29, u30, u31, u32, u33, u34, u35, u36, u37, u38, u39, u40, u41, u42, u43, u44, u45, u46, u47, u48, u49, u50, u51, u52, u53, u54, u55, u56, u57, u58, u59, u60, u61, u62, u63, u64, u65, u66, u67, u68, u69, u70, u71, u72, u73, u74, u75, u76, u77, u78, u79, u80, u81, u82, u83, u84, u85, u86, u87, u88, u89, u90, u91, u92, u93, u94, u95, u96, u97, u98, u99, u100, u101, u102, u103, u104, u105, u106, u107, u108, u109, u110, u111, u112, u113, u114, u115, u116, u117, u118, u119, u120, u121, u122, u123, u124, u125, u126, u127, u128, u129, u130, u131, u132, u133, u134, u135, u136, u137, u138, u139, u140, u141, u142, u143, u144, u145, u146, u147, u148, u149, u150, u151, u152, u153, u154, u155, u156, u157, u158, u159, u160, u161, u162, u163, u164, u165, u166, u167, u168, u169, u170, u171, u172, u173, u174, u175, u176, u177, u178, u179, u180, u181, u182, u183, u184, u185], defers := [] } w5 := by
  have HEB := Lib.hid I.eb
  have HNE := Lib.hid (show W.heap.size ≠ bx by have := I.eb; omega)
  have HLE := Lib.hid (show W.heap.size ≤ bx by have := I.eb; omega)
  have ne1 : W.heap.size ≠ bx := HNE.out
  have ne2 : bx ≠ W.heap.size := fun h => HNE.out h.symm
  have bA := wd_lt s 3
  have bB := wd_lt s 5
  have bX := wd_lt s 12
  have bY := wd_lt s 14
  have b0 := bn_lt s 0
  have b2 := bn_lt s 2
  have b7 := bn_lt s 7
  have b16 := bn_lt s 16
  have b17 := bn_lt s 17
  rw [eA] at bA
  rw [eB] at bB
  rw [eX] at bX
  rw [eY] at bY
  rw [e0] at b0
  rw [e2] at b2
  rw [e7] at b7
  rw [e16] at b16
  rw [e17] at b17
  have g0 : ((s[0]'(by omega)).toNat : Int) = x0 := bn_cell s 0 (by omega) e0
  have g2 : ((s[2]'(by omega)).toNat : Int) = x2 := bn_cell s 2 (by omega) e2
  have g7 : ((s[7]'(by omega)).toNat : Int) = x7 := bn_cell s 7 (by omega) e7
  have g16 : ((s[16]'(by omega)).toNat : Int) = x16 := bn_cell s 16 (by omega) e16
  have g17 : ((s[17]'(by omega)).toNat : Int) = x17 := bn_cell s 17 (by omega) e17
  have i0 : 0 < s.size := by omega
  have i1 : (1 : Int) < (s.size : Int) := by omega
  have i2 : (2 : Int) < (s.size : Int) := by omega
  have i7 : (7 : Int) < (s.size : Int) := by omega
  have i16 : (16 : Int) < (s.size : Int) := by omega
  have i17 : (17 : Int) < (s.size : Int) := by omega
  have i18 : ¬ (s.size : Int) < 18 := by omega
  have v0 : IntKind.i64.wrap (x0 : Int) = x0 := by rw [IntKind.wrap_i64]; omega
  have v2 : IntKind.i64.wrap (x2 : Int) = x2 := by rw [IntKind.wrap_i64]; omega
  have v7 : IntKind.i64.wrap (x7 : Int) = x7 := by rw [IntKind.wrap_i64]; omega
  have v16 : IntKind.i64.wrap (x16 : Int) = x16 := by rw [IntKind.wrap_i64]; omega
  have v17 : IntKind.i64.wrap (x17 : Int) = x17 := by rw [IntKind.wrap_i64]; omega
  have m1 : (x17 : Int) % 16 = al := by omega
  have m2 : (x17 : Int).tmod 16 = al := by rw [Int.tmod_eq_emod_of_nonneg (by omega)]; exact m1
  obtain ⟨q16, hq16⟩ : ∃ q, x17 / 16 = q := ⟨_, rfl⟩
  obtain ⟨q32, hq32⟩ : ∃ q, x17 / 32 = q := ⟨_, rfl⟩
  obtain ⟨p16, hp16⟩ : ∃ q, q16 % 2 = q := ⟨_, rfl⟩
  obtain ⟨p32, hp32⟩ : ∃ q, q32 % 2 = q := ⟨_, rfl⟩
  have m3 : (x17 : Int) / 16 = q16 := by omega
  have m4 : (x17 : Int).tdiv 16 = q16 := by rw [Int.tdiv_eq_ediv_of_nonneg (by omega)]; exact m3
  have m5 : (x17 : Int) / 32 = q32 := by omega
  have m6 : (x17 : Int).tdiv 32 = q32 := by rw [Int.tdiv_eq_ediv_of_nonneg (by omega)]; exact m5
  have m7 : (q16 : Int) % 2 = p16 := by omega
  have m8 : (q16 : Int).tmod 2 = p16 := by rw [Int.tmod_eq_emod_of_nonneg (by omega)]; exact m7
  have m9 : (q32 : Int) % 2 = p32 := by omega
  have m10 : (q32 : Int).tmod 2 = p32 := by rw [Int.tmod_eq_emod_of_nonneg (by omega)]; exact m9
  have zl : ((p16 : Int) == 1) = lf := by
    rw [← elf]
    unfold lft
    rw [e17, hq16, hp16, Bool.eq_iff_iff]
    simp
    omega
  have zt : ((p32 : Int) == 1) = tp := by
    rw [← etp]
    unfold tpp
    rw [e17, hq32, hp32, Bool.eq_iff_iff]
    simp
    omega
  have KLA := fun u => le_is s 3 (by omega) u
  have KLB := fun u => le_is s 5 (by omega) u
  have KLX := fun u => le_is s 12 (by omega) u
  have KLY := fun u => le_is s 14 (by omega) u
  simp only [eA] at KLA
  simp only [eB] at KLB
  simp only [eX] at KLX
  simp only [eY] at KLY
  have KLA := Lib.hid KLA
  have KLB := Lib.hid KLB
  have KLX := Lib.hid KLX
  have KLY := Lib.hid KLY
  have sA : ∀ w, (Instr.slice 9 (.string s) (some (.int .i64 3)) (some (.int .i64 5)) none).run Tryz.prog w = .ok (.string (s.extract 3 (3 + 2))) w := fun w => cut_at s 3 2 (by omega) w
  have sB : ∀ w, (Instr.slice 9 (.string s) (some (.int .i64 5)) (some (.int .i64 7)) none).run Tryz.prog w = .ok (.string (s.extract 5 (5 + 2))) w := fun w => cut_at s 5 2 (by omega) w
  have sX : ∀ w, (Instr.slice 9 (.string s) (some (.int .i64 12)) (some (.int .i64 14)) none).run Tryz.prog w = .ok (.string (s.extract 12 (12 + 2))) w := fun w => cut_at s 12 2 (by omega) w
  have sY : ∀ w, (Instr.slice 9 (.string s) (some (.int .i64 14)) (some (.int .i64 16)) none).run Tryz.prog w = .ok (.string (s.extract 14 (14 + 2))) w := fun w => cut_at s 14 2 (by omega) w
  have H0 := Lib.hid e0
  have HA := Lib.hid eA
  have HLF := Lib.hid elf
  have HTP := Lib.hid etp
  have HX2 := Lib.hid e2
  have HX7 := Lib.hid e7
  have HX16 := Lib.hid e16
  have HX17 := Lib.hid e17
  have HB := Lib.hid eB
  have HX := Lib.hid eX
  have HY := Lib.hid eY
  have HAL := Lib.hid eal
  have HC := Lib.hid C
  have HLO := Lib.hid lo
  have ERV := Lib.hid hRV
  clear e0 e2 e7 e16 e17 eA eB eX eY eal elf etp C lo hRV hq16 hq32 hp16 hp32
  have HGOOD := Lib.hid hgood
  clear hgood
  have hc1 : ∀ (w : World) (o : Obj), w.drew.alloc o = (w.alloc o).drew := fun _ _ => rfl
  have hc2 : ∀ (w : World) (a : Addr) (v : Value), w.drew.setCell a v = (w.setCell a v).drew := fun w a v => drewN_set w 1 a v
  conv => arg 2; whnf
  conv => arg 4; dsimp only
  conv at k1 => enter [a, w, 1, 2]; whnf
  conv at k2 => enter [a, w, 1, 2]; whnf
  have a0 : w5.cell? ⟨bx, 0, none⟩ = some (.int .i64 x0) := blk_cell I.hd 0
  have a1 : w5.cell? ⟨bx, 1, none⟩ = some (.int .i64 n1) := blk_cell I.hd 1
  have a2 : w5.cell? ⟨bx, 2, none⟩ = some (.int .i64 x2) := blk_cell I.hd 2
  have a3 : w5.cell? ⟨bx, 3, none⟩ = some (.int .i64 fA) := blk_cell I.hd 3
  have a4 : w5.cell? ⟨bx, 4, none⟩ = some (.int .i64 fB) := blk_cell I.hd 4
  have a5 : w5.cell? ⟨bx, 5, none⟩ = some (.int .i64 f7) := blk_cell I.hd 5
  have a6 : w5.cell? ⟨bx, 6, none⟩ = some (.int .i64 X) := blk_cell I.hd 6
  have a7 : w5.cell? ⟨bx, 7, none⟩ = some (.int .i64 Y) := blk_cell I.hd 7
  have a8 : w5.cell? ⟨bx, 8, none⟩ = some (.int .i64 0) := blk_cell I.hd 8
  have a9 : w5.cell? ⟨bx, 9, none⟩ = some (.int .i64 0) := blk_cell I.hd 9
  have a10 : w5.cell? ⟨bx, 10, none⟩ = some (.bool false) := blk_cell I.hd 10
  have a11 : w5.cell? ⟨bx, 11, none⟩ = some (.bool false) := blk_cell I.hd 11
  have a12 : w5.cell? ⟨bx, 12, none⟩ = some (.int .i64 0) := blk_cell I.hd 12
  have a13 : w5.cell? ⟨bx, 13, none⟩ = some (.int .i64 0) := blk_cell I.hd 13
  have fa8 := blk_free I.hd 8
  have HRI := Lib.hid I
  have HRES := Lib.hid I.res
  have HGB := Lib.hid I.gb
  have hlx := blk_lt I.hd
  clear I
  by_cases hKk : K = 5
  · have hck : ck s 5 = true := hKk ▸ HC.out.yes
    have d5 : ((X : Int) == 0) = true := by have h := hck; simp only [ck, HX.out] at h; simpa using h
    clear hck
    have E := Lib.hid (show RV = #[.int .i64 0, .int .i64 0, .int .i64 0, .int .i64 0, .int .i64 0, .int .i64 0, .int .i64 0, .int .i64 0, .int .i64 0, .int .i64 0, .bool false, .bool false, .int .i64 2, .int .i64 12] from by rw [← ERV.out, hKk]; rfl)
    have KB := Lib.hid (fun u => bad_calls 2 12 u)
    go_wp2_with fail
    refine (KB.out _).mono ?_
    rintro e w9 ⟨rfl, g9⟩
    have B9 := old0 g9 HRES.out (blk_lt HRES.out) (by simp)
    have r0 : w9.cell? ⟨W.heap.size, 0, none⟩ = some (.int .i64 0) := blk_cell B9 0
    have rf0 := blk_free B9 0
    have r1 : w9.cell? ⟨W.heap.size, 1, none⟩ = some (.int .i64 0) := blk_cell B9 1
    have rf1 := blk_free B9 1
    have r2 : w9.cell? ⟨W.heap.size, 2, none⟩ = some (.int .i64 0) := blk_cell B9 2
    have rf2 := blk_free B9 2
    have r3 : w9.cell? ⟨W.heap.size, 3, none⟩ = some (.int .i64 0) := blk_cell B9 3
    have rf3 := blk_free B9 3
    have r4 : w9.cell? ⟨W.heap.size, 4, none⟩ = some (.int .i64 0) := blk_cell B9 4
    have rf4 := blk_free B9 4
    have r5 : w9.cell? ⟨W.heap.size, 5, none⟩ = some (.int .i64 0) := blk_cell B9 5
    have rf5 := blk_free B9 5
    have r6 : w9.cell? ⟨W.heap.size, 6, none⟩ = some (.int .i64 0) := blk_cell B9 6
    have rf6 := blk_free B9 6
    have r7 : w9.cell? ⟨W.heap.size, 7, none⟩ = some (.int .i64 0) := blk_cell B9 7
    have rf7 := blk_free B9 7
    have r8 : w9.cell? ⟨W.heap.size, 8, none⟩ = some (.int .i64 0) := blk_cell B9 8
    have rf8 := blk_free B9 8
    have r9 : w9.cell? ⟨W.heap.size, 9, none⟩ = some (.int .i64 0) := blk_cell B9 9
    have rf9 := blk_free B9 9
    have r10 : w9.cell? ⟨W.heap.size, 10, none⟩ = some (.bool false) := blk_cell B9 10
    have rf10 := blk_free B9 10
    have r11 : w9.cell? ⟨W.heap.size, 11, none⟩ = some (.bool false) := blk_cell B9 11
    have rf11 := blk_free B9 11
    have r12 : w9.cell? ⟨W.heap.size, 12, none⟩ = some (.int .i64 0) := blk_cell B9 12
    have rf12 := blk_free B9 12
    have r13 : w9.cell? ⟨W.heap.size, 13, none⟩ = some (.int .i64 0) := blk_cell B9 13
    have rf13 := blk_free B9 13
    have hlr := blk_lt B9
    have G9 := Lib.hid (gb_trans HGB.out g9)
    clear g9 B9 KB
    go_wp2
    refine bodyPost_ret (v := .agg #[.int .i64 0, .int .i64 0, .int .i64 0, .int .i64 0, .int .i64 0, .int .i64 0, .int .i64 0, .int .i64 0, .int .i64 0, .int .i64 0, .bool false, .bool false, .int .i64 2, .int .i64 12]) (by simp only [results, Tryz.results22]; go_simp) rfl ⟨by rw [E.out], ?_⟩
    exact gb_own (gb_own (gb_own (gb_own (gb_own (gb_own (gb_own (gb_own (gb_own (gb_own (gb_own (gb_own (gb_own (gb_own (G9.out) (Nat.le_refl _) (gb_set _ _ _ _)) (Nat.le_refl _) (gb_set _ _ _ _)) (Nat.le_refl _) (gb_set _ _ _ _)) (Nat.le_refl _) (gb_set _ _ _ _)) (Nat.le_refl _) (gb_set _ _ _ _)) (Nat.le_refl _) (gb_set _ _ _ _)) (Nat.le_refl _) (gb_set _ _ _ _)) (Nat.le_refl _) (gb_set _ _ _ _)) (Nat.le_refl _) (gb_set _ _ _ _)) (Nat.le_refl _) (gb_set _ _ _ _)) (Nat.le_refl _) (gb_set _ _ _ _)) (Nat.le_refl _) (gb_set _ _ _ _)) (Nat.le_refl _) (gb_set _ _ _ _)) (Nat.le_refl _) (gb_set _ _ _ _)
  have hck : ck s 5 = false := HC.out.no 5 (by have h0 := HLO.out; omega)
  have hk5 := Lib.hid hKk
  have d5 : ((X : Int) == 0) = false := by have h := hck; simp only [ck, HX.out] at h; rw [beq_eq_false_iff_ne]; simp at h; omega
  clear hKk hck
  go_upto_region 20 with fail
  by_cases hKk : K = 6
  · have hck : ck s 6 = true := hKk ▸ HC.out.yes
    have d6 : (16384 : Int) < X := by have h := hck; simp only [ck, HX.out] at h; simp at h; omega
    clear hck
    have E := Lib.hid (show RV = #[.int .i64 0, .int .i64 0, .int .i64 0, .int .i64 0, .int .i64 0, .int .i64 0, .int .i64 0, .int .i64 0, .int .i64 0, .int .i64 0, .bool false, .bool false, .int .i64 3, .int .i64 12] from by rw [← ERV.out, hKk]; rfl)
    have KB := Lib.hid (fun u => bad_calls 3 12 u)
    go_wp2_with fail
    refine (KB.out _).mono ?_
    rintro e w9 ⟨rfl, g9⟩
    have B9 := old0 g9 HRES.out (blk_lt HRES.out) (by simp)
    have r0 : w9.cell? ⟨W.heap.size, 0, none⟩ = some (.int .i64 0) := blk_cell B9 0
    have rf0 := blk_free B9 0
    have r1 : w9.cell? ⟨W.heap.size, 1, none⟩ = some (.int .i64 0) := blk_cell B9 1
    have rf1 := blk_free B9 1
    have r2 : w9.cell? ⟨W.heap.size, 2, none⟩ = some (.int .i64 0) := blk_cell B9 2
    have rf2 := blk_free B9 2
    have r3 : w9.cell? ⟨W.heap.size, 3, none⟩ = some (.int .i64 0) := blk_cell B9 3
    have rf3 := blk_free B9 3
    have r4 : w9.cell? ⟨W.heap.size, 4, none⟩ = some (.int .i64 0) := blk_cell B9 4
    have rf4 := blk_free B9 4
    have r5 : w9.cell? ⟨W.heap.size, 5, none⟩ = some (.int .i64 0) := blk_cell B9 5
    have rf5 := blk_free B9 5
    have r6 : w9.cell? ⟨W.heap.size, 6, none⟩ = some (.int .i64 0) := blk_cell B9 6
    have rf6 := blk_free B9 6
    have r7 : w9.cell? ⟨W.heap.size, 7, none⟩ = some (.int .i64 0) := blk_cell B9 7
    have rf7 := blk_free B9 7
    have r8 : w9.cell? ⟨W.heap.size, 8, none⟩ = some (.int .i64 0) := blk_cell B9 8
    have rf8 := blk_free B9 8
    have r9 : w9.cell? ⟨W.heap.size, 9, none⟩ = some (.int .i64 0) := blk_cell B9 9
    have rf9 := blk_free B9 9
    have r10 : w9.cell? ⟨W.heap.size, 10, none⟩ = some (.bool false) := blk_cell B9 10
    have rf10 := blk_free B9 10
    have r11 : w9.cell? ⟨W.heap.size, 11, none⟩ = some (.bool false) := blk_cell B9 11
    have rf11 := blk_free B9 11
    have r12 : w9.cell? ⟨W.heap.size, 12, none⟩ = some (.int .i64 0) := blk_cell B9 12
    have rf12 := blk_free B9 12
    have r13 : w9.cell? ⟨W.heap.size, 13, none⟩ = some (.int .i64 0) := blk_cell B9 13
    have rf13 := blk_free B9 13
    have hlr := blk_lt B9
    have G9 := Lib.hid (gb_trans HGB.out g9)
    clear g9 B9 KB
    go_wp2
    refine bodyPost_ret (v := .agg #[.int .i64 0, .int .i64 0, .int .i64 0, .int .i64 0, .int .i64 0, .int .i64 0, .int .i64 0, .int .i64 0, .int .i64 0, .int .i64 0, .bool false, .bool false, .int .i64 3, .int .i64 12]) (by simp only [results, Tryz.results22]; go_simp) rfl ⟨by rw [E.out], ?_⟩
    exact gb_own (gb_own (gb_own (gb_own (gb_own (gb_own (gb_own (gb_own (gb_own (gb_own (gb_own (gb_own (gb_own (gb_own (G9.out) (Nat.le_refl _) (gb_set _ _ _ _)) (Nat.le_refl _) (gb_set _ _ _ _)) (Nat.le_refl _) (gb_set _ _ _ _)) (Nat.le_refl _) (gb_set _ _ _ _)) (Nat.le_refl _) (gb_set _ _ _ _)) (Nat.le_refl _) (gb_set _ _ _ _)) (Nat.le_refl _) (gb_set _ _ _ _)) (Nat.le_refl _) (gb_set _ _ _ _)) (Nat.le_refl _) (gb_set _ _ _ _)) (Nat.le_refl _) (gb_set _ _ _ _)) (Nat.le_refl _) (gb_set _ _ _ _)) (Nat.le_refl _) (gb_set _ _ _ _)) (Nat.le_refl _) (gb_set _ _ _ _)) (Nat.le_refl _) (gb_set _ _ _ _)
  have hck : ck s 6 = false := HC.out.no 6 (by have h0 := HLO.out; have h5 := hk5.out; omega)
  have hk6 := Lib.hid hKk
  have d6 : ¬ (16384 : Int) < X := by have h := hck; simp only [ck, HX.out] at h; simp at h; omega
  clear hKk hck
  go_upto_region 22 with fail
  by_cases hKk : K = 7
  · have hck : ck s 7 = true := hKk ▸ HC.out.yes
    have d7 : ((Y : Int) == 0) = true := by have h := hck; simp only [ck, HY.out] at h; simpa using h
    clear hck
    have E := Lib.hid (show RV = #[.int .i64 0, .int .i64 0, .int .i64 0, .int .i64 0, .int .i64 0, .int .i64 0, .int .i64 0, .int .i64 0, .int .i64 0, .int .i64 0, .bool false, .bool false, .int .i64 2, .int .i64 14] from by rw [← ERV.out, hKk]; rfl)
    have KB := Lib.hid (fun u => bad_calls 2 14 u)
    go_wp2_with fail
    refine (KB.out _).mono ?_
    rintro e w9 ⟨rfl, g9⟩
    have B9 := old0 g9 HRES.out (blk_lt HRES.out) (by simp)
    have r0 : w9.cell? ⟨W.heap.size, 0, none⟩ = some (.int .i64 0) := blk_cell B9 0
    have rf0 := blk_free B9 0
    have r1 : w9.cell? ⟨W.heap.size, 1, none⟩ = some (.int .i64 0) := blk_cell B9 1
    have rf1 := blk_free B9 1
    have r2 : w9.cell? ⟨W.heap.size, 2, none⟩ = some (.int .i64 0) := blk_cell B9 2
    have rf2 := blk_free B9 2
    have r3 : w9.cell? ⟨W.heap.size, 3, none⟩ = some (.int .i64 0) := blk_cell B9 3
    have rf3 := blk_free B9 3
    have r4 : w9.cell? ⟨W.heap.size, 4, none⟩ = some (.int .i64 0) := blk_cell B9 4
    have rf4 := blk_free B9 4
    have r5 : w9.cell? ⟨W.heap.size, 5, none⟩ = some (.int .i64 0) := blk_cell B9 5
    have rf5 := blk_free B9 5
    have r6 : w9.cell? ⟨W.heap.size, 6, none⟩ = some (.int .i64 0) := blk_cell B9 6
    have rf6 := blk_free B9 6
    have r7 : w9.cell? ⟨W.heap.size, 7, none⟩ = some (.int .i64 0) := blk_cell B9 7
    have rf7 := blk_free B9 7
    have r8 : w9.cell? ⟨W.heap.size, 8, none⟩ = some (.int .i64 0) := blk_cell B9 8
    have rf8 := blk_free B9 8
    have r9 : w9.cell? ⟨W.heap.size, 9, none⟩ = some (.int .i64 0) := blk_cell B9 9
    have rf9 := blk_free B9 9
    have r10 : w9.cell? ⟨W.heap.size, 10, none⟩ = some (.bool false) := blk_cell B9 10
    have rf10 := blk_free B9 10
    have r11 : w9.cell? ⟨W.heap.size, 11, none⟩ = some (.bool false) := blk_cell B9 11
    have rf11 := blk_free B9 11
    have r12 : w9.cell? ⟨W.heap.size, 12, none⟩ = some (.int .i64 0) := blk_cell B9 12
    have rf12 := blk_free B9 12
    have r13 : w9.cell? ⟨W.heap.size, 13, none⟩ = some (.int .i64 0) := blk_cell B9 13
    have rf13 := blk_free B9 13
    have hlr := blk_lt B9
    have G9 := Lib.hid (gb_trans HGB.out g9)
    clear g9 B9 KB
    go_wp2
    refine bodyPost_ret (v := .agg #[.int .i64 0, .int .i64 0, .int .i64 0, .int .i64 0, .int .i64 0, .int .i64 0, .int .i64 0, .int .i64 0, .int .i64 0, .int .i64 0, .bool false, .bool false, .int .i64 2, .int .i64 14]) (by simp only [results, Tryz.results22]; go_simp) rfl ⟨by rw [E.out], ?_⟩
    exact gb_own (gb_own (gb_own (gb_own (gb_own (gb_own (gb_own (gb_own (gb_own (gb_own (gb_own (gb_own (gb_own (gb_own (G9.out) (Nat.le_refl _) (gb_set _ _ _ _)) (Nat.le_refl _) (gb_set _ _ _ _)) (Nat.le_refl _) (gb_set _ _ _ _)) (Nat.le_refl _) (gb_set _ _ _ _)) (Nat.le_refl _) (gb_set _ _ _ _)) (Nat.le_refl _) (gb_set _ _ _ _)) (Nat.le_refl _) (gb_set _ _ _ _)) (Nat.le_refl _) (gb_set _ _ _ _)) (Nat.le_refl _) (gb_set _ _ _ _)) (Nat.le_refl _) (gb_set _ _ _ _)) (Nat.le_refl _) (gb_set _ _ _ _)) (Nat.le_refl _) (gb_set _ _ _ _)) (Nat.le_refl _) (gb_set _ _ _ _)) (Nat.le_refl _) (gb_set _ _ _ _)
  have hck : ck s 7 = false := HC.out.no 7 (by have h0 := HLO.out; have h5 := hk5.out; have h6 := hk6.out; omega)
  have hk7 := Lib.hid hKk
  have d7 : ((Y : Int) == 0) = false := by have h := hck; simp only [ck, HY.out] at h; rw [beq_eq_false_iff_ne]; simp at h; omega
  clear hKk hck
  go_upto_region 24 with fail
  by_cases hKk : K = 8
  · have hck : ck s 8 = true := hKk ▸ HC.out.yes
    have d8 : (16384 : Int) < Y := by have h := hck; simp only [ck, HY.out] at h; simp at h; omega
    clear hck
    have E := Lib.hid (show RV = #[.int .i64 0, .int .i64 0, .int .i64 0, .int .i64 0, .int .i64 0, .int .i64 0, .int .i64 0, .int .i64 0, .int .i64 0, .int .i64 0, .bool false, .bool false, .int .i64 3, .int .i64 14] from by rw [← ERV.out, hKk]; rfl)
    have KB := Lib.hid (fun u => bad_calls 3 14 u)
    go_wp2_with fail
    refine (KB.out _).mono ?_
    rintro e w9 ⟨rfl, g9⟩
    have B9 := old0 g9 HRES.out (blk_lt HRES.out) (by simp)
    have r0 : w9.cell? ⟨W.heap.size, 0, none⟩ = some (.int .i64 0) := blk_cell B9 0
    have rf0 := blk_free B9 0
    have r1 : w9.cell? ⟨W.heap.size, 1, none⟩ = some (.int .i64 0) := blk_cell B9 1
    have rf1 := blk_free B9 1
    have r2 : w9.cell? ⟨W.heap.size, 2, none⟩ = some (.int .i64 0) := blk_cell B9 2
    have rf2 := blk_free B9 2
    have r3 : w9.cell? ⟨W.heap.size, 3, none⟩ = some (.int .i64 0) := blk_cell B9 3
    have rf3 := blk_free B9 3
    have r4 : w9.cell? ⟨W.heap.size, 4, none⟩ = some (.int .i64 0) := blk_cell B9 4
    have rf4 := blk_free B9 4
    have r5 : w9.cell? ⟨W.heap.size, 5, none⟩ = some (.int .i64 0) := blk_cell B9 5
    have rf5 := blk_free B9 5
    have r6 : w9.cell? ⟨W.heap.size, 6, none⟩ = some (.int .i64 0) := blk_cell B9 6
    have rf6 := blk_free B9 6
    have r7 : w9.cell? ⟨W.heap.size, 7, none⟩ = some (.int .i64 0) := blk_cell B9 7
    have rf7 := blk_free B9 7
    have r8 : w9.cell? ⟨W.heap.size, 8, none⟩ = some (.int .i64 0) := blk_cell B9 8
    have rf8 := blk_free B9 8
    have r9 : w9.cell? ⟨W.heap.size, 9, none⟩ = some (.int .i64 0) := blk_cell B9 9
    have rf9 := blk_free B9 9
    have r10 : w9.cell? ⟨W.heap.size, 10, none⟩ = some (.bool false) := blk_cell B9 10
    have rf10 := blk_free B9 10
    have r11 : w9.cell? ⟨W.heap.size, 11, none⟩ = some (.bool false) := blk_cell B9 11
    have rf11 := blk_free B9 11
    have r12 : w9.cell? ⟨W.heap.size, 12, none⟩ = some (.int .i64 0) := blk_cell B9 12
    have rf12 := blk_free B9 12
    have r13 : w9.cell? ⟨W.heap.size, 13, none⟩ = some (.int .i64 0) := blk_cell B9 13
    have rf13 := blk_free B9 13
    have hlr := blk_lt B9
    have G9 := Lib.hid (gb_trans HGB.out g9)
    clear g9 B9 KB
    go_wp2
    refine bodyPost_ret (v := .agg #[.int .i64 0, .int .i64 0, .int .i64 0, .int .i64 0, .int .i64 0, .int .i64 0, .int .i64 0, .int .i64 0, .int .i64 0, .int .i64 0, .bool false, .bool false, .int .i64 3, .int .i64 14]) (by simp only [results, Tryz.results22]; go_simp) rfl ⟨by rw [E.out], ?_⟩
    exact gb_own (gb_own (gb_own (gb_own (gb_own (gb_own (gb_own (gb_own (gb_own (gb_own (gb_own (gb_own (gb_own (gb_own (G9.out) (Nat.le_refl _) (gb_set _ _ _ _)) (Nat.le_refl _) (gb_set _ _ _ _)) (Nat.le_refl _) (gb_set _ _ _ _)) (Nat.le_refl _) (gb_set _ _ _ _)) (Nat.le_refl _) (gb_set _ _ _ _)) (Nat.le_refl _) (gb_set _ _ _ _)) (Nat.le_refl _) (gb_set _ _ _ _)) (Nat.le_refl _) (gb_set _ _ _ _)) (Nat.le_refl _) (gb_set _ _ _ _)) (Nat.le_refl _) (gb_set _ _ _ _)) (Nat.le_refl _) (gb_set _ _ _ _)) (Nat.le_refl _) (gb_set _ _ _ _)) (Nat.le_refl _) (gb_set _ _ _ _)) (Nat.le_refl _) (gb_set _ _ _ _)
  have hck : ck s 8 = false := HC.out.no 8 (by have h0 := HLO.out; have h5 := hk5.out; have h6 := hk6.out; have h7 := hk7.out; omega)
  have hk8 := Lib.hid hKk
  have d8 : ¬ (16384 : Int) < Y := by have h := hck; simp only [ck, HY.out] at h; simp at h; omega
  clear hKk hck
  go_upto_region 27 with fail
  clear d5 d6 d7 d8
  refine abs_w (R := RI W bx #[.int .i64 x0, .int .i64 n1, .int .i64 x2, .int .i64 fA, .int .i64 fB, .int .i64 f7, .int .i64 X, .int .i64 Y, .int .i64 x16, .int .i64 0, .bool false, .bool false, .int .i64 0, .int .i64 0]) ?_ (fun w6 I => ?_)
  · refine ⟨?_, ?_, HEB.out, ?_⟩
    · exact blk_other HRES.out HNE.out
    · exact blk_set HRI.out.hd 8 (.int .i64 x16)
    · exact gb_own HGB.out HLE.out (gb_set _ _ _ _)
  exact from27 s K RV x0 x2 x7 x16 x17 A B X Y al n1 fA fB f7 lf tp W h18 hm HC.out (by have h0 := HLO.out; have h5 := hk5.out; have h6 := hk6.out; have h7 := hk7.out; have h8 := hk8.out; omega) ERV.out H0.out HX2.out HX7.out HX16.out HX17.out HA.out HB.out HX.out HY.out HAL.out HLF.out HTP.out HGOOD.out bx w6 I _ _ _ _ _ _ _ _ _ _ _ _ _ _ _ _ _ _ _ _ _ _ _ _ _ _ _ _ _ _ _ _ _ _ _ _ _ _ _ _ _ _ _ _ _ _ _ _ _ _ _ _ _ _ _ _ _ _ _ _ _ _ _ _ _ _ _ _ _ _ _ _ _ _ _ _ _ _ _ _ _ _ _ _ _ _ _ _ _ _ _ _ _ _ _ _ _ _ _ _ _ _ _ _ _ _ _ _ _ _ _ _ _ _ _ _ _ _ _ _ _ _ _ _ _ _ _ _ _ _ _ _ _ _ _ _ _ _ _ _ _ _ _ _ _ _ _ _ _ _ _ _ _ _ _ _ _ _ _ _ _ _ _ _ _ _ _ _ _ _ _ _ _ _ _ _ _ _ _ _ _ _ _ (by assumption) (by assumption)

end Go.Proofs.YtnieeckdldpebaaGreat.Tg

/- The document's Read of a head without a map (written by tga7c.py). -/
namespace Go.Proofs.YtnieeckdldpebaaGreat.Tg
open Go.ChangeShapes Go.WideShapes Go.ChangeAt Go.RowKit
open Go.Proofs.YtnieeckdldpebaaGreat.Le Go.Proofs.YtnieeckdldpebaaGreat.Sr
set_option linter.unusedVariables false

set_option maxRecDepth 100000 in
set_option maxHeartbeats 16000000 in
theorem read_nomp (s : ByteArray) (K : Nat) (RV : Array Value) (x0 x2 x7 x16 x17 A B X Y al : Nat) (lf tp : Bool) (W : World) (h18 : 18 ≤ s.size) (hm : s.size ≤ 9223372036854775807) (C : Ck s K) (hRV : rV s K = RV)
    (e0 : bn s 0 = x0) (e1 : bn s 1 = 0) (e2 : bn s 2 = x2) (e7 : bn s 7 = x7) (e16 : bn s 16 = x16) (e17 : bn s 17 = x17) (eA : wd s 3 = A) (eB : wd s 5 = B) (eX : wd s 12 = X) (eY : wd s 14 = Y) (eal : x17 % 16 = al) (elf : lft s = lf) (etp : tpp s = tp) :
    Calls Tryz.prog 22 #[.string s] W fun e w' => e = .returned (.agg RV) ∧ W.grownBy w' none := by
  have bA := wd_lt s 3
  have bB := wd_lt s 5
  have bX := wd_lt s 12
  have bY := wd_lt s 14
  have b0 := bn_lt s 0
  have b2 := bn_lt s 2
  have b7 := bn_lt s 7
  have b16 := bn_lt s 16
  have b17 := bn_lt s 17
  rw [eA] at bA
  rw [eB] at bB
  rw [eX] at bX
  rw [eY] at bY
  rw [e0] at b0
  rw [e2] at b2
  rw [e7] at b7
  rw [e16] at b16
  rw [e17] at b17
  have g0 : ((s[0]'(by omega)).toNat : Int) = x0 := bn_cell s 0 (by omega) e0
  have g1 : ((s[1]'(by omega)).toNat : Int) = 0 := bn_cell s 1 (by omega) e1
  have g2 : ((s[2]'(by omega)).toNat : Int) = x2 := bn_cell s 2 (by omega) e2
  have g7 : ((s[7]'(by omega)).toNat : Int) = x7 := bn_cell s 7 (by omega) e7
  have g16 : ((s[16]'(by omega)).toNat : Int) = x16 := bn_cell s 16 (by omega) e16
  have g17 : ((s[17]'(by omega)).toNat : Int) = x17 := bn_cell s 17 (by omega) e17
  have i0 : 0 < s.size := by omega
  have i1 : (1 : Int) < (s.size : Int) := by omega
  have i2 : (2 : Int) < (s.size : Int) := by omega
  have i7 : (7 : Int) < (s.size : Int) := by omega
  have i16 : (16 : Int) < (s.size : Int) := by omega
  have i17 : (17 : Int) < (s.size : Int) := by omega
  have i18 : ¬ (s.size : Int) < 18 := by omega
  have v0 : IntKind.i64.wrap (x0 : Int) = x0 := by rw [IntKind.wrap_i64]; omega
  have vw : IntKind.i64.wrap 0 = 0 := by rw [IntKind.wrap_i64]; decide
  have v2 : IntKind.i64.wrap (x2 : Int) = x2 := by rw [IntKind.wrap_i64]; omega
  have v7 : IntKind.i64.wrap (x7 : Int) = x7 := by rw [IntKind.wrap_i64]; omega
  have v16 : IntKind.i64.wrap (x16 : Int) = x16 := by rw [IntKind.wrap_i64]; omega
  have v17 : IntKind.i64.wrap (x17 : Int) = x17 := by rw [IntKind.wrap_i64]; omega
  have m1 : (x17 : Int) % 16 = al := by omega
  have m2 : (x17 : Int).tmod 16 = al := by rw [Int.tmod_eq_emod_of_nonneg (by omega)]; exact m1
  obtain ⟨q16, hq16⟩ : ∃ q, x17 / 16 = q := ⟨_, rfl⟩
  obtain ⟨q32, hq32⟩ : ∃ q, x17 / 32 = q := ⟨_, rfl⟩
  obtain ⟨p16, hp16⟩ : ∃ q, q16 % 2 = q := ⟨_, rfl⟩
  obtain ⟨p32, hp32⟩ : ∃ q, q32 % 2 = q := ⟨_, rfl⟩
  have m3 : (x17 : Int) / 16 = q16 := by omega
  have m4 : (x17 : Int).tdiv 16 = q16 := by rw [Int.tdiv_eq_ediv_of_nonneg (by omega)]; exact m3
  have m5 : (x17 : Int) / 32 = q32 := by omega
  have m6 : (x17 : Int).tdiv 32 = q32 := by rw [Int.tdiv_eq_ediv_of_nonneg (by omega)]; exact m5
  have m7 : (q16 : Int) % 2 = p16 := by omega
  have m8 : (q16 : Int).tmod 2 = p16 := by rw [Int.tmod_eq_emod_of_nonneg (by omega)]; exact m7
  have m9 : (q32 : Int) % 2 = p32 := by omega
  have m10 : (q32 : Int).tmod 2 = p32 := by rw [Int.tmod_eq_emod_of_nonneg (by omega)]; exact m9
  have zl : ((p16 : Int) == 1) = lf := by
    rw [← elf]
    unfold lft
    rw [e17, hq16, hp16, Bool.eq_iff_iff]
    simp
    omega
  have zt : ((p32 : Int) == 1) = tp := by
    rw [← etp]
    unfold tpp
    rw [e17, hq32, hp32, Bool.eq_iff_iff]
    simp
    omega
  have KLA := fun u => le_is s 3 (by omega) u
  have KLB := fun u => le_is s 5 (by omega) u
  have KLX := fun u => le_is s 12 (by omega) u
  have KLY := fun u => le_is s 14 (by omega) u
  simp only [eA] at KLA
  simp only [eB] at KLB
  simp only [eX] at KLX
  simp only [eY] at KLY
  have KLA := Lib.hid KLA
  have KLB := Lib.hid KLB
  have KLX := Lib.hid KLX
  have KLY := Lib.hid KLY
  have sA : ∀ w, (Instr.slice 9 (.string s) (some (.int .i64 3)) (some (.int .i64 5)) none).run Tryz.prog w = .ok (.string (s.extract 3 (3 + 2))) w := fun w => cut_at s 3 2 (by omega) w
  have sB : ∀ w, (Instr.slice 9 (.string s) (some (.int .i64 5)) (some (.int .i64 7)) none).run Tryz.prog w = .ok (.string (s.extract 5 (5 + 2))) w := fun w => cut_at s 5 2 (by omega) w
  have sX : ∀ w, (Instr.slice 9 (.string s) (some (.int .i64 12)) (some (.int .i64 14)) none).run Tryz.prog w = .ok (.string (s.extract 12 (12 + 2))) w := fun w => cut_at s 12 2 (by omega) w
  have sY : ∀ w, (Instr.slice 9 (.string s) (some (.int .i64 14)) (some (.int .i64 16)) none).run Tryz.prog w = .ok (.string (s.extract 14 (14 + 2))) w := fun w => cut_at s 14 2 (by omega) w
  have hmp : mpB s = false := by unfold mpB; rw [e1]; rfl
  have HGOOD : rV s 12 = #[.int .i64 x0, .int .i64 0, .int .i64 x2, .int .i64 0, .int .i64 0, .int .i64 0, .int .i64 X, .int .i64 Y, .int .i64 x16, .int .i64 al, .bool lf, .bool tp, .int .i64 0, .int .i64 0] := by
    unfold rV rGood fst cnt ent alp
    rw [if_pos rfl, hmp, e0, e2, eX, eY, e16, e17, eal, elf, etp]
    simp []
  have HGOOD := Lib.hid HGOOD
  have HMP := Lib.hid hmp
  have HX1 := Lib.hid e1
  have H0 := Lib.hid e0
  have HA := Lib.hid eA
  have HLF := Lib.hid elf
  have HTP := Lib.hid etp
  have HX2 := Lib.hid e2
  have HX7 := Lib.hid e7
  have HX16 := Lib.hid e16
  have HX17 := Lib.hid e17
  have HB := Lib.hid eB
  have HX := Lib.hid eX
  have HY := Lib.hid eY
  have HAL := Lib.hid eal
  have HC := Lib.hid C
  have HLK := Lib.hid C.le
  have ERV := Lib.hid hRV
  clear e0 e1 e2 e7 e16 e17 eA eB eX eY eal elf etp hmp C hRV hq16 hq32 hp16 hp32
  go_enter Tryz.func22, Tryz.ntmps22
  go_upto_region 1 with fail
  have hR : (W.alloc (.cells #[.int .i64 0, .int .i64 0, .int .i64 0, .int .i64 0, .int .i64 0, .int .i64 0, .int .i64 0, .int .i64 0, .int .i64 0, .int .i64 0, .bool false, .bool false, .int .i64 0, .int .i64 0] 57)).heap[W.heap.size]? = some (.cells #[.int .i64 0, .int .i64 0, .int .i64 0, .int .i64 0, .int .i64 0, .int .i64 0, .int .i64 0, .int .i64 0, .int .i64 0, .int .i64 0, .bool false, .bool false, .int .i64 0, .int .i64 0] 57 (0, 0)) := blk_at
  have hG := World.grownBy_alloc W (.cells #[.int .i64 0, .int .i64 0, .int .i64 0, .int .i64 0, .int .i64 0, .int .i64 0, .int .i64 0, .int .i64 0, .int .i64 0, .int .i64 0, .bool false, .bool false, .int .i64 0, .int .i64 0] 57) none
  have hZ := size_alloc W (.cells #[.int .i64 0, .int .i64 0, .int .i64 0, .int .i64 0, .int .i64 0, .int .i64 0, .int .i64 0, .int .i64 0, .int .i64 0, .int .i64 0, .bool false, .bool false, .int .i64 0, .int .i64 0] 57)
  generalize W.alloc (.cells #[.int .i64 0, .int .i64 0, .int .i64 0, .int .i64 0, .int .i64 0, .int .i64 0, .int .i64 0, .int .i64 0, .int .i64 0, .int .i64 0, .bool false, .bool false, .int .i64 0, .int .i64 0] 57) = w1 at hR hG hZ ⊢
  obtain ⟨bx, hbx⟩ : ∃ bx, w1.heap.size = bx := ⟨_, rfl⟩
  have HEB := Lib.hid (show bx = W.heap.size + 1 by omega)
  have HNE := Lib.hid (show W.heap.size ≠ bx by omega)
  have HLE := Lib.hid (show W.heap.size ≤ bx by omega)
  have ne1 : W.heap.size ≠ bx := HNE.out
  have ne2 : bx ≠ W.heap.size := fun h => HNE.out h.symm
  have HR := Lib.hid hR
  have HG := Lib.hid hG
  clear hR hG hZ
  have hc1 : ∀ (w : World) (o : Obj), w.drew.alloc o = (w.alloc o).drew := fun _ _ => rfl
  have hc2 : ∀ (w : World) (a : Addr) (v : Value), w.drew.setCell a v = (w.setCell a v).drew := fun w a v => drewN_set w 1 a v
  have k0 : ck s 0 = false := by simp only [ck, HX1.out]; decide
  have hk0 := Lib.hid (show K ≠ 0 from fun h => by have := HC.out.yes; rw [h, k0] at this; cases this)
  clear k0
  go_upto_region 6 with fail
  go_cut [40] from 6 (fun c wx => c = .bool (!(typB x2)) ∧ w1 = wx)
  case first =>
    by_cases ht : x2 = 1 ∨ x2 = 2 ∨ x2 = 3 ∨ x2 = 9 ∨ x2 = 10 ∨ x2 = 11
    · have hv := Lib.hid (show (!(typB x2)) = false from by unfold typB pln; obtain h | h | h | h | h | h := ht <;> subst h <;> decide)
      obtain h | h | h | h | h | h := ht
      all_goals
        subst h
        go_wp2_with fail
        go_meet
        exact ⟨by first | rfl | (rw [hv.out, b8]; done) | (rw [hv.out, b8]; rfl) | (rw [hv.out]; done) | (rw [hv.out]; rfl), rfl⟩
    · have hv := Lib.hid (show (!(typB x2)) = true from by unfold typB pln; rw [Bool.not_eq_true', decide_eq_false_iff_not]; split <;> omega)
      have b1 : ((x2 : Int) != 1) = true := by rw [bne_iff_ne]; omega
      have b2 : ((x2 : Int) != 2) = true := by rw [bne_iff_ne]; omega
      have b3 : ((x2 : Int) != 3) = true := by rw [bne_iff_ne]; omega
      have b4 : ((x2 : Int) != 9) = true := by rw [bne_iff_ne]; omega
      have b5 : ((x2 : Int) != 10) = true := by rw [bne_iff_ne]; omega
      have b6 : ((x2 : Int) != 11) = true := by rw [bne_iff_ne]; omega
      clear ht
      go_wp2_with fail
      go_meet
      exact ⟨by first | rfl | (rw [hv.out, b8]; done) | (rw [hv.out, b8]; rfl) | (rw [hv.out]; done) | (rw [hv.out]; rfl), rfl⟩
  case rest =>
    obtain ⟨rfl, rfl⟩ := hcut
    by_cases hKk : K = 1
    · have hck : ck s 1 = true := hKk ▸ HC.out.yes
      have d1 : typB x2 = false := by have h := hck; simp only [ck, HX2.out] at h; simpa using h
      clear hck
      simp only [d1, Bool.not_false]
      have E := Lib.hid (show RV = #[.int .i64 0, .int .i64 0, .int .i64 0, .int .i64 0, .int .i64 0, .int .i64 0, .int .i64 0, .int .i64 0, .int .i64 0, .int .i64 0, .bool false, .bool false, .int .i64 3, .int .i64 2] from by rw [← ERV.out, hKk]; rfl)
      have KB := Lib.hid (fun u => bad_calls 3 2 u)
      go_wp2_with fail
      refine (KB.out _).mono ?_
      rintro e w9 ⟨rfl, g9⟩
      have B9 := old0 g9 HR.out (blk_lt HR.out) (by simp)
      have r0 : w9.cell? ⟨W.heap.size, 0, none⟩ = some (.int .i64 0) := blk_cell B9 0
      have rf0 := blk_free B9 0
      have r1 : w9.cell? ⟨W.heap.size, 1, none⟩ = some (.int .i64 0) := blk_cell B9 1
      have rf1 := blk_free B9 1
      have r2 : w9.cell? ⟨W.heap.size, 2, none⟩ = some (.int .i64 0) := blk_cell B9 2
      have rf2 := blk_free B9 2
      have r3 : w9.cell? ⟨W.heap.size, 3, none⟩ = some (.int .i64 0) := blk_cell B9 3
      have rf3 := blk_free B9 3
      have r4 : w9.cell? ⟨W.heap.size, 4, none⟩ = some (.int .i64 0) := blk_cell B9 4
      have rf4 := blk_free B9 4
      have r5 : w9.cell? ⟨W.heap.size, 5, none⟩ = some (.int .i64 0) := blk_cell B9 5
      have rf5 := blk_free B9 5
      have r6 : w9.cell? ⟨W.heap.size, 6, none⟩ = some (.int .i64 0) := blk_cell B9 6
      have rf6 := blk_free B9 6
      have r7 : w9.cell? ⟨W.heap.size, 7, none⟩ = some (.int .i64 0) := blk_cell B9 7
      have rf7 := blk_free B9 7
      have r8 : w9.cell? ⟨W.heap.size, 8, none⟩ = some (.int .i64 0) := blk_cell B9 8
      have rf8 := blk_free B9 8
      have r9 : w9.cell? ⟨W.heap.size, 9, none⟩ = some (.int .i64 0) := blk_cell B9 9
      have rf9 := blk_free B9 9
      have r10 : w9.cell? ⟨W.heap.size, 10, none⟩ = some (.bool false) := blk_cell B9 10
      have rf10 := blk_free B9 10
      have r11 : w9.cell? ⟨W.heap.size, 11, none⟩ = some (.bool false) := blk_cell B9 11
      have rf11 := blk_free B9 11
      have r12 : w9.cell? ⟨W.heap.size, 12, none⟩ = some (.int .i64 0) := blk_cell B9 12
      have rf12 := blk_free B9 12
      have r13 : w9.cell? ⟨W.heap.size, 13, none⟩ = some (.int .i64 0) := blk_cell B9 13
      have rf13 := blk_free B9 13
      have hlr := blk_lt B9
      have G9 := Lib.hid (gb_trans HG.out g9)
      clear g9 B9 KB
      go_wp2
      refine bodyPost_ret (v := .agg #[.int .i64 0, .int .i64 0, .int .i64 0, .int .i64 0, .int .i64 0, .int .i64 0, .int .i64 0, .int .i64 0, .int .i64 0, .int .i64 0, .bool false, .bool false, .int .i64 3, .int .i64 2]) (by simp only [results, Tryz.results22]; go_simp) rfl ⟨by rw [E.out], ?_⟩
      exact gb_own (gb_own (gb_own (gb_own (gb_own (gb_own (gb_own (gb_own (gb_own (gb_own (gb_own (gb_own (gb_own (gb_own (G9.out) (Nat.le_refl _) (gb_set _ _ _ _)) (Nat.le_refl _) (gb_set _ _ _ _)) (Nat.le_refl _) (gb_set _ _ _ _)) (Nat.le_refl _) (gb_set _ _ _ _)) (Nat.le_refl _) (gb_set _ _ _ _)) (Nat.le_refl _) (gb_set _ _ _ _)) (Nat.le_refl _) (gb_set _ _ _ _)) (Nat.le_refl _) (gb_set _ _ _ _)) (Nat.le_refl _) (gb_set _ _ _ _)) (Nat.le_refl _) (gb_set _ _ _ _)) (Nat.le_refl _) (gb_set _ _ _ _)) (Nat.le_refl _) (gb_set _ _ _ _)) (Nat.le_refl _) (gb_set _ _ _ _)) (Nat.le_refl _) (gb_set _ _ _ _)
    have hck : ck s 1 = false := HC.out.no 1 (by have h0 := hk0.out; omega)
    have hk1 := Lib.hid hKk
    have d1 : typB x2 = true := by have h := hck; simp only [ck, HX2.out] at h; simpa using h
    simp only [d1, Bool.not_true]
    clear hKk hck
    clear d1
    go_upto_region 8 with fail
    go_cut [52] from 6 (fun c wx => c = .bool (decide (pln x2 = 1)) ∧ w1 = wx)
    case first =>
      have b12 : pln x2 = 1 ↔ (x2 = 1 ∨ x2 = 9) := by unfold pln; split <;> omega
      by_cases t1 : x2 = 1
      · have hv := Lib.hid (show decide (pln x2 = 1) = true from decide_eq_true (b12.2 (.inl t1)))
        have b1 : ((x2 : Int) == 1) = true := by rw [beq_iff_eq]; omega
        clear b12 t1
        go_wp2_with fail
        go_meet
        exact ⟨by first | rfl | (rw [hv.out, b8]; done) | (rw [hv.out, b8]; rfl) | (rw [hv.out]; done) | (rw [hv.out]; rfl), rfl⟩
      · have b1 : ((x2 : Int) == 1) = false := by rw [beq_eq_false_iff_ne]; omega
        by_cases t9 : x2 = 9
        · have hv := Lib.hid (show decide (pln x2 = 1) = true from decide_eq_true (b12.2 (.inr t9)))
          have b9 : ((x2 : Int) == 9) = true := by rw [beq_iff_eq]; omega
          clear b12 t1 t9
          go_wp2_with fail
          go_meet
          exact ⟨by first | rfl | (rw [hv.out, b8]; done) | (rw [hv.out, b8]; rfl) | (rw [hv.out]; done) | (rw [hv.out]; rfl), rfl⟩
        · have hv := Lib.hid (show decide (pln x2 = 1) = false from decide_eq_false (fun h => by rcases b12.1 h with h | h <;> omega))
          have b9 : ((x2 : Int) == 9) = false := by rw [beq_eq_false_iff_ne]; omega
          clear b12 t1 t9
          go_wp2_with fail
          go_meet
          exact ⟨by first | rfl | (rw [hv.out, b8]; done) | (rw [hv.out, b8]; rfl) | (rw [hv.out]; done) | (rw [hv.out]; rfl), rfl⟩
    case rest =>
      obtain ⟨rfl, rfl⟩ := hcut
      by_cases hKk : K = 2
      · have hck : ck s 2 = true := hKk ▸ HC.out.yes
        have d2 : decide (pln x2 = 1) = true := by have h := hck; simp only [ck, HMP.out, HX2.out] at h; simpa using h
        clear hck
        simp only [d2]
        have E := Lib.hid (show RV = #[.int .i64 0, .int .i64 0, .int .i64 0, .int .i64 0, .int .i64 0, .int .i64 0, .int .i64 0, .int .i64 0, .int .i64 0, .int .i64 0, .bool false, .bool false, .int .i64 2, .int .i64 1] from by rw [← ERV.out, hKk]; rfl)
        have KB := Lib.hid (fun u => bad_calls 2 1 u)
        go_wp2_with fail
        refine (KB.out _).mono ?_
        rintro e w9 ⟨rfl, g9⟩
        have B9 := old0 g9 HR.out (blk_lt HR.out) (by simp)
        have r0 : w9.cell? ⟨W.heap.size, 0, none⟩ = some (.int .i64 0) := blk_cell B9 0
        have rf0 := blk_free B9 0
        have r1 : w9.cell? ⟨W.heap.size, 1, none⟩ = some (.int .i64 0) := blk_cell B9 1
        have rf1 := blk_free B9 1
        have r2 : w9.cell? ⟨W.heap.size, 2, none⟩ = some (.int .i64 0) := blk_cell B9 2
        have rf2 := blk_free B9 2
        have r3 : w9.cell? ⟨W.heap.size, 3, none⟩ = some (.int .i64 0) := blk_cell B9 3
        have rf3 := blk_free B9 3
        have r4 : w9.cell? ⟨W.heap.size, 4, none⟩ = some (.int .i64 0) := blk_cell B9 4
        have rf4 := blk_free B9 4
        have r5 : w9.cell? ⟨W.heap.size, 5, none⟩ = some (.int .i64 0) := blk_cell B9 5
        have rf5 := blk_free B9 5
        have r6 : w9.cell? ⟨W.heap.size, 6, none⟩ = some (.int .i64 0) := blk_cell B9 6
        have rf6 := blk_free B9 6
        have r7 : w9.cell? ⟨W.heap.size, 7, none⟩ = some (.int .i64 0) := blk_cell B9 7
        have rf7 := blk_free B9 7
        have r8 : w9.cell? ⟨W.heap.size, 8, none⟩ = some (.int .i64 0) := blk_cell B9 8
        have rf8 := blk_free B9 8
        have r9 : w9.cell? ⟨W.heap.size, 9, none⟩ = some (.int .i64 0) := blk_cell B9 9
        have rf9 := blk_free B9 9
        have r10 : w9.cell? ⟨W.heap.size, 10, none⟩ = some (.bool false) := blk_cell B9 10
        have rf10 := blk_free B9 10
        have r11 : w9.cell? ⟨W.heap.size, 11, none⟩ = some (.bool false) := blk_cell B9 11
        have rf11 := blk_free B9 11
        have r12 : w9.cell? ⟨W.heap.size, 12, none⟩ = some (.int .i64 0) := blk_cell B9 12
        have rf12 := blk_free B9 12
        have r13 : w9.cell? ⟨W.heap.size, 13, none⟩ = some (.int .i64 0) := blk_cell B9 13
        have rf13 := blk_free B9 13
        have hlr := blk_lt B9
        have G9 := Lib.hid (gb_trans HG.out g9)
        clear g9 B9 KB
        go_wp2
        refine bodyPost_ret (v := .agg #[.int .i64 0, .int .i64 0, .int .i64 0, .int .i64 0, .int .i64 0, .int .i64 0, .int .i64 0, .int .i64 0, .int .i64 0, .int .i64 0, .bool false, .bool false, .int .i64 2, .int .i64 1]) (by simp only [results, Tryz.results22]; go_simp) rfl ⟨by rw [E.out], ?_⟩
        exact gb_own (gb_own (gb_own (gb_own (gb_own (gb_own (gb_own (gb_own (gb_own (gb_own (gb_own (gb_own (gb_own (gb_own (G9.out) (Nat.le_refl _) (gb_set _ _ _ _)) (Nat.le_refl _) (gb_set _ _ _ _)) (Nat.le_refl _) (gb_set _ _ _ _)) (Nat.le_refl _) (gb_set _ _ _ _)) (Nat.le_refl _) (gb_set _ _ _ _)) (Nat.le_refl _) (gb_set _ _ _ _)) (Nat.le_refl _) (gb_set _ _ _ _)) (Nat.le_refl _) (gb_set _ _ _ _)) (Nat.le_refl _) (gb_set _ _ _ _)) (Nat.le_refl _) (gb_set _ _ _ _)) (Nat.le_refl _) (gb_set _ _ _ _)) (Nat.le_refl _) (gb_set _ _ _ _)) (Nat.le_refl _) (gb_set _ _ _ _)) (Nat.le_refl _) (gb_set _ _ _ _)
      have hck : ck s 2 = false := HC.out.no 2 (by have h0 := hk0.out; have h1 := hk1.out; omega)
      have hk2 := Lib.hid hKk
      have d2 : decide (pln x2 = 1) = false := by have h := hck; simp only [ck, HMP.out, HX2.out] at h; simpa using h
      simp only [d2]
      clear hKk hck
      clear d2
      have k3 : ck s 3 = false := by simp only [ck, HMP.out]; rfl
      have k4 : ck s 4 = false := by simp only [ck, HMP.out]; rfl
      have hk3 := Lib.hid (show K ≠ 3 from fun h => by have := HC.out.yes; rw [h, k3] at this; cases this)
      have hk4 := Lib.hid (show K ≠ 4 from fun h => by have := HC.out.yes; rw [h, k4] at this; cases this)
      clear k3 k4
      go_upto_region 10 with fail
      refine wp_region_held_drew (S := fun _ => True) (by kernel_rfl) ?_ (fun hHeld => ?_)
      · first | exact trivial | go_keep
      refine wpAnyH_take (i := 0) (oi := { dst := some 54, op := Go.Op.move (Go.Operand.tmp 0), type := 9, pos := "ref.go:38", after := #[], guard := none }) (v := ?v0_1) rfl (by kernel_rfl) (by kernel_rfl) (by kernel_rfl) (fun _ _ _ h => h) (Or.inl ⟨by rfl, ?hy0_1⟩) (by assumption) ?rest0_1
      case hy0_1 =>
        intro w' hSw
        try dsimp only at hSw
        go_simp
        try with_reducible rfl
      try simp only [Act.put, List.setIfInBounds_toArray, List.set_cons_zero, List.set_cons_succ]
      refine wpAnyH_take (i := 1) (oi := { dst := some 55, op := Go.Op.index 9 (Go.Operand.tmp 54) (Go.Operand.const (Go.Value.int Go.IntKind.i64 0)), type := 5, pos := "ref.go:38", after := #[{ on := 0, ground := Go.Ground.data }], guard := none }) (v := ?v1_2) rfl (by kernel_rfl) (by kernel_rfl) (by kernel_rfl) (fun _ _ _ h => h) (Or.inl ⟨by rfl, ?hy1_2⟩) (by assumption) ?rest1_2
      case hy1_2 =>
        intro w' hSw
        try dsimp only at hSw
        go_simp
        try with_reducible rfl
      try simp only [Act.put, List.setIfInBounds_toArray, List.set_cons_zero, List.set_cons_succ]
      refine wpAnyH_take (i := 2) (oi := { dst := some 56, op := Go.Op.convert 5 3 (Go.Operand.tmp 55), type := 3, pos := "ref.go:38", after := #[{ on := 1, ground := Go.Ground.data }], guard := none }) (v := ?v2_3) rfl (by kernel_rfl) (by kernel_rfl) (by kernel_rfl) (fun _ _ _ h => h) (Or.inl ⟨by rfl, ?hy2_3⟩) (by assumption) ?rest2_3
      case hy2_3 =>
        intro w' hSw
        try dsimp only at hSw
        go_simp
        try with_reducible rfl
      try simp only [Act.put, List.setIfInBounds_toArray, List.set_cons_zero, List.set_cons_succ]
      refine wpAnyH_take (i := 3) (oi := { dst := some 57, op := Go.Op.move (Go.Operand.tmp 0), type := 9, pos := "ref.go:38", after := #[], guard := none }) (v := ?v3_4) rfl (by kernel_rfl) (by kernel_rfl) (by kernel_rfl) (fun _ _ _ h => h) (Or.inl ⟨by rfl, ?hy3_4⟩) (by assumption) ?rest3_4
      case hy3_4 =>
        intro w' hSw
        try dsimp only at hSw
        go_simp
        try with_reducible rfl
      try simp only [Act.put, List.setIfInBounds_toArray, List.set_cons_zero, List.set_cons_succ]
      refine wpAnyH_take (i := 4) (oi := { dst := some 58, op := Go.Op.index 9 (Go.Operand.tmp 57) (Go.Operand.const (Go.Value.int Go.IntKind.i64 1)), type := 5, pos := "ref.go:38", after := #[{ on := 3, ground := Go.Ground.data }], guard := none }) (v := ?v4_5) rfl (by kernel_rfl) (by kernel_rfl) (by kernel_rfl) (fun _ _ _ h => h) (Or.inl ⟨by rfl, ?hy4_5⟩) (by assumption) ?rest4_5
      case hy4_5 =>
        intro w' hSw
        try dsimp only at hSw
        go_simp
        try with_reducible rfl
      try simp only [Act.put, List.setIfInBounds_toArray, List.set_cons_zero, List.set_cons_succ]
      refine wpAnyH_take (i := 5) (oi := { dst := some 59, op := Go.Op.convert 5 3 (Go.Operand.tmp 58), type := 3, pos := "ref.go:38", after := #[{ on := 4, ground := Go.Ground.data }], guard := none }) (v := ?v5_6) rfl (by kernel_rfl) (by kernel_rfl) (by kernel_rfl) (fun _ _ _ h => h) (Or.inl ⟨by rfl, ?hy5_6⟩) (by assumption) ?rest5_6
      case hy5_6 =>
        intro w' hSw
        try dsimp only at hSw
        go_simp
        try with_reducible rfl
      try simp only [Act.put, List.setIfInBounds_toArray, List.set_cons_zero, List.set_cons_succ]
      refine wpAnyH_take (i := 6) (oi := { dst := some 60, op := Go.Op.move (Go.Operand.tmp 3), type := 3, pos := "ref.go:38", after := #[], guard := none }) (v := ?v6_7) rfl (by kernel_rfl) (by kernel_rfl) (by kernel_rfl) (fun _ _ _ h => h) (Or.inl ⟨by rfl, ?hy6_7⟩) (by assumption) ?rest6_7
      case hy6_7 =>
        intro w' hSw
        try dsimp only at hSw
        go_simp
        try with_reducible rfl
      try simp only [Act.put, List.setIfInBounds_toArray, List.set_cons_zero, List.set_cons_succ]
      refine wpAnyH_take (i := 7) (oi := { dst := some 61, op := Go.Op.build 57 #[(0, Go.Operand.tmp 56), (1, Go.Operand.tmp 59), (2, Go.Operand.tmp 60)], type := 57, pos := "ref.go:38", after := #[{ on := 2, ground := Go.Ground.data }, { on := 5, ground := Go.Ground.data }, { on := 6, ground := Go.Ground.data }], guard := none }) (v := ?v7_8) rfl (by kernel_rfl) (by kernel_rfl) (by kernel_rfl) (fun _ _ _ h => h) (Or.inl ⟨by rfl, ?hy7_8⟩) (by assumption) ?rest7_8
      case hy7_8 =>
        intro w' hSw
        try dsimp only at hSw
        go_simp
        try with_reducible rfl
      try simp only [Act.put, List.setIfInBounds_toArray, List.set_cons_zero, List.set_cons_succ]
      refine wpAnyH_ready (rs := [8]) (by kernel_rfl) (by simp) ?_
      refine AllReadyH.cons (o := { dst := some 4, op := Go.Op.alloc 57, type := 0, pos := "ref.go:38", after := #[], guard := none }) rfl (fun K hK => ?_) AllReadyH.nil
      go_simp
      refine hK.out _ _ ?_ (fun hHeld2 => ?_)
      · first | exact trivial | go_keep
      clear hHeld
      have hHeld := hHeld2
      clear hK K hHeld2
      try simp only [Act.put, List.setIfInBounds_toArray, List.set_cons_zero, List.set_cons_succ]
      refine wpAnyH_ready (rs := [9]) (by kernel_rfl) (by simp) ?_
      refine AllReadyH.cons (o := { dst := none, op := Go.Op.store 57 (Go.Operand.tmp 4) (Go.Operand.tmp 61), type := 0, pos := "ref.go:38", after := #[{ on := 8, ground := Go.Ground.data }, { on := 7, ground := Go.Ground.data }, { on := 0, ground := Go.Ground.phase }, { on := 1, ground := Go.Ground.phase }, { on := 2, ground := Go.Ground.phase }, { on := 3, ground := Go.Ground.phase }, { on := 4, ground := Go.Ground.phase }, { on := 5, ground := Go.Ground.phase }, { on := 6, ground := Go.Ground.phase }, { on := 7, ground := Go.Ground.phase }, { on := 8, ground := Go.Ground.phase }], guard := none }) rfl (fun K hK => ?_) AllReadyH.nil
      go_simp
      refine hK.out _ _ ?_ (fun hHeld2 => ?_)
      · first | exact trivial | go_keep
      clear hHeld
      have hHeld := hHeld2
      clear hK K hHeld2
      try simp only [Act.put, List.setIfInBounds_toArray, List.set_cons_zero, List.set_cons_succ]
      refine wpAnyH_done (by kernel_rfl) ?_ _
      refine abs_w (R := RI W bx #[.int .i64 x0, .int .i64 0, .int .i64 x2, .int .i64 0, .int .i64 0, .int .i64 0, .int .i64 0, .int .i64 0, .int .i64 0, .int .i64 0, .bool false, .bool false, .int .i64 0, .int .i64 0]) ?_ (fun w2 I => ?_)
      · refine ⟨?_, ?_, HEB.out, ?_⟩
        · exact (blk_al HR.out (.cells #[.int .i64 x0, .int .i64 0, .int .i64 x2, .int .i64 0, .int .i64 0, .int .i64 0, .int .i64 0, .int .i64 0, .int .i64 0, .int .i64 0, .bool false, .bool false, .int .i64 0, .int .i64 0] 57))
        · exact at_bx hbx
        · exact gb_trans (gb_trans HG.out (World.grownBy_alloc w1 (.cells #[.int .i64 x0, .int .i64 0, .int .i64 x2, .int .i64 0, .int .i64 0, .int .i64 0, .int .i64 0, .int .i64 0, .int .i64 0, .int .i64 0, .bool false, .bool false, .int .i64 0, .int .i64 0] 57) none)) (gb_drew _ _)
      have a0 : w2.cell? ⟨bx, 0, none⟩ = some (.int .i64 x0) := blk_cell I.hd 0
      have a1 : w2.cell? ⟨bx, 1, none⟩ = some (.int .i64 0) := blk_cell I.hd 1
      have a2 : w2.cell? ⟨bx, 2, none⟩ = some (.int .i64 x2) := blk_cell I.hd 2
      have a3 : w2.cell? ⟨bx, 3, none⟩ = some (.int .i64 0) := blk_cell I.hd 3
      have a4 : w2.cell? ⟨bx, 4, none⟩ = some (.int .i64 0) := blk_cell I.hd 4
      have a5 : w2.cell? ⟨bx, 5, none⟩ = some (.int .i64 0) := blk_cell I.hd 5
      have a6 : w2.cell? ⟨bx, 6, none⟩ = some (.int .i64 0) := blk_cell I.hd 6
      have a7 : w2.cell? ⟨bx, 7, none⟩ = some (.int .i64 0) := blk_cell I.hd 7
      have a8 : w2.cell? ⟨bx, 8, none⟩ = some (.int .i64 0) := blk_cell I.hd 8
      have a9 : w2.cell? ⟨bx, 9, none⟩ = some (.int .i64 0) := blk_cell I.hd 9
      have a10 : w2.cell? ⟨bx, 10, none⟩ = some (.bool false) := blk_cell I.hd 10
      have a11 : w2.cell? ⟨bx, 11, none⟩ = some (.bool false) := blk_cell I.hd 11
      have a12 : w2.cell? ⟨bx, 12, none⟩ = some (.int .i64 0) := blk_cell I.hd 12
      have a13 : w2.cell? ⟨bx, 13, none⟩ = some (.int .i64 0) := blk_cell I.hd 13
      have fa3 := blk_free I.hd 3
      have fa4 := blk_free I.hd 4
      have fa5 := blk_free I.hd 5
      have fa6 := blk_free I.hd 6
      have fa7 := blk_free I.hd 7
      have HRI := Lib.hid I
      have HRES := Lib.hid I.res
      have HGB := Lib.hid I.gb
      have hlx := blk_lt I.hd
      clear I
      go_upto_region 17 with fail
      refine wp_region_held_drew (S := fun _ => True) (by kernel_rfl) ?_ (fun hHeld => ?_)
      · first | exact trivial | go_keep
      refine wpAnyH_take (i := 0) (oi := { dst := some 86, op := Go.Op.move (Go.Operand.tmp 0), type := 9, pos := "ref.go:48", after := #[], guard := none }) (v := ?v0_9) rfl (by kernel_rfl) (by kernel_rfl) (by kernel_rfl) (fun _ _ _ h => h) (Or.inl ⟨by rfl, ?hy0_9⟩) (by assumption) ?rest0_9
      case hy0_9 =>
        intro w' hSw
        try dsimp only at hSw
        go_simp
        try with_reducible rfl
      try simp only [Act.put, List.setIfInBounds_toArray, List.set_cons_zero, List.set_cons_succ]
      refine wpAnyH_take (i := 1) (oi := { dst := some 87, op := Go.Op.slice 9 (Go.Operand.tmp 86) (some (Go.Operand.const (Go.Value.int Go.IntKind.i64 12))) (some (Go.Operand.const (Go.Value.int Go.IntKind.i64 14))) none, type := 9, pos := "ref.go:48", after := #[{ on := 0, ground := Go.Ground.data }], guard := none }) (v := ?v1_10) rfl (by kernel_rfl) (by kernel_rfl) (by kernel_rfl) (fun _ _ _ h => h) (Or.inl ⟨by rfl, ?hy1_10⟩) (by assumption) ?rest1_10
      case hy1_10 =>
        intro w' hSw
        try dsimp only at hSw
        go_simp
        try with_reducible rfl
      try simp only [Act.put, List.setIfInBounds_toArray, List.set_cons_zero, List.set_cons_succ]
      refine wpAnyH_take (i := 3) (oi := { dst := some 89, op := Go.Op.move (Go.Operand.tmp 0), type := 9, pos := "ref.go:48", after := #[], guard := none }) (v := ?v3_11) rfl (by kernel_rfl) (by kernel_rfl) (by kernel_rfl) (fun _ _ _ h => h) (Or.inl ⟨by rfl, ?hy3_11⟩) (by assumption) ?rest3_11
      case hy3_11 =>
        intro w' hSw
        try dsimp only at hSw
        go_simp
        try with_reducible rfl
      try simp only [Act.put, List.setIfInBounds_toArray, List.set_cons_zero, List.set_cons_succ]
      refine wpAnyH_take (i := 4) (oi := { dst := some 90, op := Go.Op.slice 9 (Go.Operand.tmp 89) (some (Go.Operand.const (Go.Value.int Go.IntKind.i64 14))) (some (Go.Operand.const (Go.Value.int Go.IntKind.i64 16))) none, type := 9, pos := "ref.go:48", after := #[{ on := 3, ground := Go.Ground.data }], guard := none }) (v := ?v4_12) rfl (by kernel_rfl) (by kernel_rfl) (by kernel_rfl) (fun _ _ _ h => h) (Or.inl ⟨by rfl, ?hy4_12⟩) (by assumption) ?rest4_12
      case hy4_12 =>
        intro w' hSw
        try dsimp only at hSw
        go_simp
        try with_reducible rfl
      try simp only [Act.put, List.setIfInBounds_toArray, List.set_cons_zero, List.set_cons_succ]
      refine wpAnyH_ready (rs := [2]) (by kernel_rfl) (by simp) ?_
      refine AllReadyH.cons (o := { dst := some 88, op := Go.Op.call { callee := Go.Callee.value (Go.Operand.func 47), args := #[Go.Operand.tmp 87], argTypes := #[9] }, type := 3, pos := "ref.go:48", after := #[{ on := 1, ground := Go.Ground.data }], guard := none }) rfl (fun K hK => ?_) AllReadyH.nil
      go_simp
      refine (KLX.out _).mono ?_
      rintro e w' ⟨rfl, rfl⟩
      try go_wp2_with fail
      refine hK.out _ _ ?_ (fun hHeld2 => ?_)
      · first | exact trivial | go_keep
      clear hHeld
      have hHeld := hHeld2
      clear hK K hHeld2
      try simp only [Act.put, List.setIfInBounds_toArray, List.set_cons_zero, List.set_cons_succ]
      refine wpAnyH_take (i := 6) (oi := { dst := some 92, op := Go.Op.fieldAddr 57 (Go.Operand.tmp 4) 6, type := 0, pos := "ref.go:48", after := #[{ on := 0, ground := Go.Ground.phase }, { on := 1, ground := Go.Ground.phase }, { on := 2, ground := Go.Ground.phase }, { on := 3, ground := Go.Ground.textOnly Go.Departure.lateStores }, { on := 4, ground := Go.Ground.textOnly Go.Departure.lateStoresUnsure }, { on := 5, ground := Go.Ground.textOnly Go.Departure.lateStoresUnsure }], guard := none }) (v := ?v6_13) rfl (by kernel_rfl) (by kernel_rfl) (by kernel_rfl) (fun _ _ _ h => h) (Or.inl ⟨by rfl, ?hy6_13⟩) (by assumption) ?rest6_13
      case hy6_13 =>
        intro w' hSw
        try dsimp only at hSw
        go_simp
        try with_reducible rfl
      try simp only [Act.put, List.setIfInBounds_toArray, List.set_cons_zero, List.set_cons_succ]
      refine wpAnyH_ready (rs := [5]) (by kernel_rfl) (by simp) ?_
      refine AllReadyH.cons (o := { dst := some 91, op := Go.Op.call { callee := Go.Callee.value (Go.Operand.func 47), args := #[Go.Operand.tmp 90], argTypes := #[9] }, type := 3, pos := "ref.go:48", after := #[{ on := 4, ground := Go.Ground.data }, { on := 2, ground := Go.Ground.chain }], guard := none }) rfl (fun K hK => ?_) AllReadyH.nil
      go_simp
      refine (KLY.out _).mono ?_
      rintro e w' ⟨rfl, rfl⟩
      try go_wp2_with fail
      refine hK.out _ _ ?_ (fun hHeld2 => ?_)
      · first | exact trivial | go_keep
      clear hHeld
      have hHeld := hHeld2
      clear hK K hHeld2
      try simp only [Act.put, List.setIfInBounds_toArray, List.set_cons_zero, List.set_cons_succ]
      refine wpAnyH_ready (rs := [7]) (by kernel_rfl) (by simp) ?_
      refine AllReadyH.cons (o := { dst := none, op := Go.Op.store 3 (Go.Operand.tmp 92) (Go.Operand.tmp 88), type := 0, pos := "ref.go:48", after := #[{ on := 6, ground := Go.Ground.data }, { on := 2, ground := Go.Ground.data }, { on := 5, ground := Go.Ground.chain }, { on := 0, ground := Go.Ground.phase }, { on := 1, ground := Go.Ground.phase }, { on := 2, ground := Go.Ground.phase }, { on := 3, ground := Go.Ground.textOnly Go.Departure.lateStores }, { on := 4, ground := Go.Ground.textOnly Go.Departure.lateStoresUnsure }, { on := 5, ground := Go.Ground.textOnly Go.Departure.lateStoresUnsure }], guard := none }) rfl (fun K hK => ?_) AllReadyH.nil
      go_simp
      refine hK.out _ _ ?_ (fun hHeld2 => ?_)
      · first | exact trivial | go_keep
      clear hHeld
      have hHeld := hHeld2
      clear hK K hHeld2
      try simp only [Act.put, List.setIfInBounds_toArray, List.set_cons_zero, List.set_cons_succ]
      refine wpAnyH_take (i := 8) (oi := { dst := some 93, op := Go.Op.fieldAddr 57 (Go.Operand.tmp 4) 7, type := 0, pos := "ref.go:48", after := #[{ on := 0, ground := Go.Ground.phase }, { on := 1, ground := Go.Ground.phase }, { on := 2, ground := Go.Ground.phase }, { on := 3, ground := Go.Ground.phase }, { on := 4, ground := Go.Ground.phase }, { on := 5, ground := Go.Ground.phase }, { on := 6, ground := Go.Ground.phase }, { on := 7, ground := Go.Ground.phase }], guard := none }) (v := ?v8_14) rfl (by kernel_rfl) (by kernel_rfl) (by kernel_rfl) (fun _ _ _ h => h) (Or.inl ⟨by rfl, ?hy8_14⟩) (by assumption) ?rest8_14
      case hy8_14 =>
        intro w' hSw
        try dsimp only at hSw
        go_simp
        try with_reducible rfl
      try simp only [Act.put, List.setIfInBounds_toArray, List.set_cons_zero, List.set_cons_succ]
      refine wpAnyH_ready (rs := [9]) (by kernel_rfl) (by simp) ?_
      refine AllReadyH.cons (o := { dst := none, op := Go.Op.store 3 (Go.Operand.tmp 93) (Go.Operand.tmp 91), type := 0, pos := "ref.go:48", after := #[{ on := 8, ground := Go.Ground.data }, { on := 5, ground := Go.Ground.data }, { on := 7, ground := Go.Ground.chain }, { on := 0, ground := Go.Ground.phase }, { on := 1, ground := Go.Ground.phase }, { on := 2, ground := Go.Ground.phase }, { on := 3, ground := Go.Ground.phase }, { on := 4, ground := Go.Ground.phase }, { on := 5, ground := Go.Ground.phase }, { on := 6, ground := Go.Ground.phase }, { on := 7, ground := Go.Ground.phase }], guard := none }) rfl (fun K hK => ?_) AllReadyH.nil
      go_simp
      refine hK.out _ _ ?_ (fun hHeld2 => ?_)
      · first | exact trivial | go_keep
      clear hHeld
      have hHeld := hHeld2
      clear hK K hHeld2
      try simp only [Act.put, List.setIfInBounds_toArray, List.set_cons_zero, List.set_cons_succ]
      refine wpAnyH_done (by kernel_rfl) ?_ _
      refine abs_w (R := RI W bx #[.int .i64 x0, .int .i64 0, .int .i64 x2, .int .i64 0, .int .i64 0, .int .i64 0, .int .i64 X, .int .i64 Y, .int .i64 0, .int .i64 0, .bool false, .bool false, .int .i64 0, .int .i64 0]) ?_ (fun w4 I => ?_)
      · refine ⟨?_, ?_, HEB.out, ?_⟩
        · exact blk_other (blk_other HRES.out HNE.out) HNE.out
        · exact blk_set (blk_set HRI.out.hd 6 (.int .i64 X)) 7 (.int .i64 Y)
        · exact gb_trans (gb_own (gb_own HGB.out HLE.out (gb_set _ _ _ _)) HLE.out (gb_set _ _ _ _)) (gb_drew _ _)
      clear a0 a1 a2 a3 a4 a5 a6 a7 a8 a9 a10 a11 a12 a13
      clear fa3 fa4 fa5 fa6 fa7 HRI HRES HGB hlx
      have a0 : w4.cell? ⟨bx, 0, none⟩ = some (.int .i64 x0) := blk_cell I.hd 0
      have a1 : w4.cell? ⟨bx, 1, none⟩ = some (.int .i64 0) := blk_cell I.hd 1
      have a2 : w4.cell? ⟨bx, 2, none⟩ = some (.int .i64 x2) := blk_cell I.hd 2
      have a3 : w4.cell? ⟨bx, 3, none⟩ = some (.int .i64 0) := blk_cell I.hd 3
      have a4 : w4.cell? ⟨bx, 4, none⟩ = some (.int .i64 0) := blk_cell I.hd 4
      have a5 : w4.cell? ⟨bx, 5, none⟩ = some (.int .i64 0) := blk_cell I.hd 5
      have a6 : w4.cell? ⟨bx, 6, none⟩ = some (.int .i64 X) := blk_cell I.hd 6
      have a7 : w4.cell? ⟨bx, 7, none⟩ = some (.int .i64 Y) := blk_cell I.hd 7
      have a8 : w4.cell? ⟨bx, 8, none⟩ = some (.int .i64 0) := blk_cell I.hd 8
      have a9 : w4.cell? ⟨bx, 9, none⟩ = some (.int .i64 0) := blk_cell I.hd 9
      have a10 : w4.cell? ⟨bx, 10, none⟩ = some (.bool false) := blk_cell I.hd 10
      have a11 : w4.cell? ⟨bx, 11, none⟩ = some (.bool false) := blk_cell I.hd 11
      have a12 : w4.cell? ⟨bx, 12, none⟩ = some (.int .i64 0) := blk_cell I.hd 12
      have a13 : w4.cell? ⟨bx, 13, none⟩ = some (.int .i64 0) := blk_cell I.hd 13
      have fa8 := blk_free I.hd 8
      have HRI := Lib.hid I
      have HRES := Lib.hid I.res
      have HGB := Lib.hid I.gb
      have hlx := blk_lt I.hd
      clear I
      go_upto_region 18 with fail
      have I := HRI.out
      exact from18 s K RV x0 x2 x7 x16 x17 A B X Y al 0 0 0 0 lf tp W h18 hm HC.out (by have h0 := hk0.out; have h1 := hk1.out; have h2 := hk2.out; have h3 := hk3.out; have h4 := hk4.out; omega) ERV.out H0.out HX2.out HX7.out HX16.out HX17.out HA.out HB.out HX.out HY.out HAL.out HLF.out HTP.out HGOOD.out bx w4 I _ _ _ _ _ _ _ _ _ _ _ _ _ _ _ _ _ _ _ _ _ _ _ _ _ _ _ _ _ _ _ _ _ _ _ _ _ _ _ _ _ _ _ _ _ _ _ _ _ _ _ _ _ _ _ _ _ _ _ _ _ _ _ _ _ _ _ _ _ _ _ _ _ _ _ _ _ _ _ _ _ _ _ _ _ _ _ _ _ _ _ _ _ _ _ _ _ _ _ _ _ _ _ _ _ _ _ _ _ _ _ _ _ _ _ _ _ _ _ _ _ _ _ _ _ _ _ _ _ _ _ _ _ _ _ _ _ _ _ _ _ _ _ _ _ _ _ _ _ _ _ _ _ _ _ _ _ _ _ _ _ _ _ _ _ _ _ _ _ _ _ _ _ _ _ _ _ _ _ _ _ _ _ (by assumption) (by assumption)


end Go.Proofs.YtnieeckdldpebaaGreat.Tg
