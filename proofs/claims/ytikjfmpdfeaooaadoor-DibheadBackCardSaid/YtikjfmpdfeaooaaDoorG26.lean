/- Texts of one kind, one behind the other: DiD4, DiD8, DiD16, DiD24. -/
import Derived.Test.YtikjfmpdfeaooaaDoorG18
/- The document's Read of a long head, from the count's test on: pixels of 4 bits (written by wip/gen/di1.py). -/
namespace Go.Proofs.YtikjfmpdfeaooaaDoor.Dh
open Go.ChangeShapes Go.WideShapes Go.ChangeAt Go.RowKit
open Go.Proofs.YtikjfmpdfeaooaaDoor.Le Go.Proofs.YtikjfmpdfeaooaaDoor.Sr Go.Proofs.YtikjfmpdfeaooaaDoor.Ma
set_option linter.unusedVariables false

set_option maxRecDepth 100000 in
set_option maxHeartbeats 16000000 in
theorem from17_4 (s b : ByteArray) (fr to n K : Nat) (X Y P M C : Int) (RV MV : Array Value) (W : World) (DVh : DV fr n K X Y P 4 M C RV MV) (KM0 : ∀ u, Calls Tryd.prog 35 #[.string s, .agg #[.int .i64 (n : Nat), .int .i64 X, .int .i64 (fa Y), .bool (decide (Y < 0)), .int .i64 4, .int .i64 M, .int .i64 (clrC 4 C), .int .i64 0, .int .i64 0, .int .i64 0, .int .i64 0, .int .i64 (fr : Nat), .int .i64 ((fr + n : Nat)), .int .i64 0, .int .i64 0], .int .i64 (to : Nat)] u fun e w' => e = .returned (.agg MV) ∧ u.grownBy w' none) (KP0 : ∀ u, Calls Tryd.prog 29 #[.string (b.extract 12 (12 + 2))] u fun e w' => e = .returned (.int .i64 P) ∧ u = w') (hb40 : 40 ≤ b.size) (hbm : b.size ≤ 9223372036854775807) (hMV : MVis MV) (lo : 9 ≤ K) (hb : Nat) (w5 : World) (I : DI W hb #[.int .i64 (n : Nat), .int .i64 X, .int .i64 (fa Y), .bool (decide (Y < 0)), .int .i64 4, .int .i64 M, .int .i64 C, .int .i64 0, .int .i64 0, .int .i64 0, .int .i64 0, .int .i64 (fr : Nat), .int .i64 ((fr + n : Nat)), .int .i64 0, .int .i64 0] w5) 
    (u10 u11 u12 u13 u14 u15 u16 u17 u18 u19 u20 u21 u22 u23 u24 u25 u26 u27 u28 u29 u30 u31 u32 u33 u34 u35 u36 u37 u38 u39 u40 u41 u42 u43 u44 u45 u46 u47 u48 u49 u50 u51 u52 u53 u54 u55 u56 u57 u58 u59 u60 u61 u62 u63 u64 u65 u66 u67 u68 u69 u70 u71 u72 u73 u74 u75 u76 u77 u78 u79 u80 u81 u82 u83 u84 u85 u86 u87 u88 u89 u90 u91 u92 u93 u94 u95 u96 u97 u98 u99 u100 u101 u102 u103 u104 u105 u106 u107 u108 u109 u110 u111 u112 u113 u114 u115 u116 u117 u118 u119 u120 u121 u122 u123 u124 u125 u126 u127 u128 u129 u130 u131 u132 u133 u134 u135 u136 u137 u138 u139 u140 u141 u142 u143 u144 u145 u146 u147 u148 u149 u150 u151 u152 u153 u154 u155 u156 u157 u158 u159 u160 u161 u162 u163 u164 u165 u166 u167 u168 u169 u170 u171 u172 u173 u174 u175 u176 u177 u178 u179 u180 u181 u182 u183 u184 u185 u186 u187 u188 u189 u190 u191 u192 u193 u194 u195 u196 u197 u198 u199 u200 u201 u202 u203 u204 u205 u206 u207 u208 u209 u210 u211 u212 u213 u214 u215 u216 u217 u218 u219 u220 u221 u222 u223 u224 u225 u226 u227 u228 u229 u230 u231 : Value) (K1 K2 : Act → World → Prop) (k1 : ∀ a w, Code.wp Tryd.prog (tl7 (hd7 (tl7 (tl7 (tl7 (tl7 (tl7 (tl7 (tl7 (tl7 (tl7 (tl7 (tl7 (tl7 (tl7 (tl7 (tl7 (tl7 (tl7 (bd20)))))))))))))))))))) (Exit.then K2 (bodyPost Tryd.prog Tryd.f11 (fun e w' => e = .returned (.agg RV) ∧ W.grownBy w' none))) a w → K1 a w) (k2 : ∀ a w, Code.wp Tryd.prog (tl7 (tl7 (tl7 (tl7 (tl7 (tl7 (tl7 (tl7 (tl7 (tl7 (tl7 (tl7 (tl7 (tl7 (tl7 (tl7 (tl7 (tl7 (bd20))))))))))))))))))) (bodyPost Tryd.prog Tryd.f11 (fun e w' => e = .returned (.agg RV) ∧ W.grownBy w' none)) a w → K2 a w) :
    Code.wp Tryd.prog (hd7 (hd7 (tl7 (tl7 (tl7 (tl7 (tl7 (tl7 (tl7 (tl7 (tl7 (tl7 (tl7 (tl7 (tl7 (tl7 (tl7 (tl7 (tl7 (bd20)))))))))))))))))))) (Exit.then K1 (Exit.then K2 (bodyPost Tryd.prog Tryd.f11 (fun e w' => e = .returned (.agg RV) ∧ W.grownBy w' none)))) { tmps := #[.string s, .int .i64 (fr : Nat), .int .i64 (to : Nat), undef, undef, undef, .pointer (some ⟨W.heap.size, 0, none⟩), .int .i64 (n : Nat), .string b, .pointer (some ⟨hb, 0, none⟩), u10, u11, u12, u13, u14, u15, u16, u17, u18, u19, u20, u21, u22, u23, u24, u25, u26, u27, u28, u29, u30, u31, u32, u33, u34, u35, u36, u37, u38, u39, u40, u41, u42, u43, u44, u45, u46, u47, u48, u49, u50, u51, u52, u53, u54, u55, u56, u57, u58, u59, u60, u61, u62, u63, u64, u65, u66, u67, u68, u69, u70, u71, u72, u73, u74, u75, u76, u77, u78, u79, u80, u81, u82, u83, u84, u85, u86, u87, u88, u89, u90, u91, u92, u93, u94, u95, u96, u97, u98, u99, u100, u101, u102, u103, u104, u105, u106, u107, u108, u109, u110, u111, u112, u113, u114, u115, u116, u117, u118, u119, u120, u121, u122, u123, u124, u125, u126, u127, u128, u129, u130, u131, u132, u133, u134, u135, u136, u137, u138, u139, u140, u141, u142, u143, u144, u145, u146, u147, u148, u149, u150, u151, u152, u153, u154, u155, u156, u157, u158, u159, u160, u161, u162, u163, u164, u165, u166, u167, u168, u169, u170, u171, u172, u173, u174, u175, u176, u177, u178, u179, u180, u181, u182, u183, u184, u185, u186, u187, u188, u189, u190, u191, u192, u193, u194, u195, u196, u197, u198, u199, u200, u201, u202, u203, u204, u205, u206, u207, u208, u209, u210, u211, u212, u213, u214, u215, u216, u217, u218, u219, u220, u221, u222, u223, u224, u225, u226, u227, u228, u229, u230, u231], defers := [] } w5 := by
  have HV := Lib.hid DVh
  have KM := Lib.hid KM0
  have KP := Lib.hid KP0
  have HB40 := Lib.hid (And.intro hb40 hbm)
  have HLO := Lib.hid lo
  have ne1 : W.heap.size ≠ hb := by have := I.lt; omega
  have ne2 : hb ≠ W.heap.size := by have := I.lt; omega
  have HI := Lib.hid I
  have hfr := DVh.fle
  have hnl := DVh.nle
  clear DVh KM0 KP0 lo hb40 hbm
  conv => arg 2; whnf
  conv => arg 4; dsimp only
  conv at k1 => enter [a, w, 1, 2]; whnf
  conv at k2 => enter [a, w, 1, 2]; whnf
  have a0 := blk_cell I.hd 0
  have a1 := blk_cell I.hd 1
  have a2 := blk_cell I.hd 2
  have a3 := blk_cell I.hd 3
  have a4 := blk_cell I.hd 4
  have a5 := blk_cell I.hd 5
  have a6 := blk_cell I.hd 6
  have a7 := blk_cell I.hd 7
  have a8 := blk_cell I.hd 8
  have a9 := blk_cell I.hd 9
  have a10 := blk_cell I.hd 10
  have a11 := blk_cell I.hd 11
  have a12 := blk_cell I.hd 12
  have a13 := blk_cell I.hd 13
  have a14 := blk_cell I.hd 14
  simp only [List.getElem?_toArray, List.getElem?_cons_succ, List.getElem?_cons_zero] at a0 a1 a2 a3 a4 a5 a6 a7 a8 a9 a10 a11 a12 a13 a14
  have hlx := blk_lt I.hd
  clear I
  have hK9 : K = 9 ∨ K = 10 := by have := HLO.out; have := HV.out.f.le; omega
  have c9 : ckD n X Y P 4 M C 9 = decide (mstC 4 < C) := rfl
  have cc := HV.out.c0
  have HD := trivial
  · have KW := Lib.hid (show ∀ u, Calls Tryd.prog 34 #[.int .i64 4] u fun e w' => e = .returned (.int .i64 16) ∧ w' = u from fun u => (Go.Proofs.YtikjfmpdfeaooaaDoor.Sc.power_calls 4 u (by decide)).mono (fun _ _ h => ⟨h.1, h.2.symm⟩))
    rw [show mstC 4 = 16 from rfl] at c9
    by_cases h9 : (16 : Int) < C
    · have hK : K = 9 := by
        rcases hK9 with h | h
        · exact h
        · have h2 := HV.out.f.no 9 (by omega)
          rw [c9, decide_eq_true h9] at h2
          exact absurd h2 (by decide)
      go_wp2_with fail
      go_quiet ((go_at_call 34; exact Calls.quiet_of_same (KW.out _)))
      have HN := Lib.hid (show DI W hb #[.int .i64 (n : Nat), .int .i64 X, .int .i64 (fa Y), .bool (decide (Y < 0)), .int .i64 4, .int .i64 M, .int .i64 C, .int .i64 0, .int .i64 0, .int .i64 0, .int .i64 0, .int .i64 (fr : Nat), .int .i64 ((fr + n : Nat)), .int .i64 0, .int .i64 0] (w5.drewN nq) from ⟨HI.out.res, HI.out.hd, gb_trans HI.out.gb (gb_drewN _ nq _), HI.out.lt⟩)
      generalize w5.drewN nq = w6 at HN ⊢
      have E := Lib.hid (show RV = badA 2 ((fr : Int) + 32) from HV.out.bad 9 (by decide) hK)
      have KB := Lib.hid (fun u => rbad_calls 2 ((fr : Int) + 32) u)
      have hwp : IntKind.i64.wrap ((fr : Int) + 32) = (fr : Int) + 32 := IntWalk.i64_in _ (by omega)
      unfold badA at KB
      go_wp2_with fail

      

      refine (KB.out _).mono ?_
      rintro e w9 ⟨rfl, g9⟩
      have B9 := old0 g9 HN.out.res (blk_lt HN.out.res) (by simp)
      have r0 := blk_cell B9 0
      have r1 := blk_cell B9 1
      have r2 := blk_cell B9 2
      have r3 := blk_cell B9 3
      have r4 := blk_cell B9 4
      have r5 := blk_cell B9 5
      have r6 := blk_cell B9 6
      have r7 := blk_cell B9 7
      have r8 := blk_cell B9 8
      have r9 := blk_cell B9 9
      have r10 := blk_cell B9 10
      have r11 := blk_cell B9 11
      have r12 := blk_cell B9 12
      have r13 := blk_cell B9 13
      have r14 := blk_cell B9 14
      have rf0 := blk_free B9 0
      have rf1 := blk_free B9 1
      have rf2 := blk_free B9 2
      have rf3 := blk_free B9 3
      have rf4 := blk_free B9 4
      have rf5 := blk_free B9 5
      have rf6 := blk_free B9 6
      have rf7 := blk_free B9 7
      have rf8 := blk_free B9 8
      have rf9 := blk_free B9 9
      have rf10 := blk_free B9 10
      have rf11 := blk_free B9 11
      have rf12 := blk_free B9 12
      have rf13 := blk_free B9 13
      have rf14 := blk_free B9 14
      simp only [List.getElem?_toArray, List.getElem?_cons_succ, List.getElem?_cons_zero] at r0 r1 r2 r3 r4 r5 r6 r7 r8 r9 r10 r11 r12 r13 r14
      have hlr := blk_lt B9
      have G9 := Lib.hid (gb_trans HN.out.gb g9)
      clear g9 B9 KB
      go_wp2
      refine bodyPost_ret (v := .agg (badA 2 ((fr : Int) + 32))) (by simp only [results, Tryd.results11, badA]; go_simp) rfl ⟨by rw [E.out], ?_⟩
      exact gb_own (gb_own (gb_own (gb_own (gb_own (gb_own (gb_own (gb_own (gb_own (gb_own (gb_own (gb_own (gb_own (gb_own (gb_own (G9.out) (Nat.le_refl _) (gb_set _ _ _ _)) (Nat.le_refl _) (gb_set _ _ _ _)) (Nat.le_refl _) (gb_set _ _ _ _)) (Nat.le_refl _) (gb_set _ _ _ _)) (Nat.le_refl _) (gb_set _ _ _ _)) (Nat.le_refl _) (gb_set _ _ _ _)) (Nat.le_refl _) (gb_set _ _ _ _)) (Nat.le_refl _) (gb_set _ _ _ _)) (Nat.le_refl _) (gb_set _ _ _ _)) (Nat.le_refl _) (gb_set _ _ _ _)) (Nat.le_refl _) (gb_set _ _ _ _)) (Nat.le_refl _) (gb_set _ _ _ _)) (Nat.le_refl _) (gb_set _ _ _ _)) (Nat.le_refl _) (gb_set _ _ _ _)) (Nat.le_refl _) (gb_set _ _ _ _)
    · have hK : K = 10 := by
        rcases hK9 with h | h
        · have h2 := HV.out.f.yes (by omega)
          rw [h, c9, decide_eq_false h9] at h2
          exact absurd h2 (by decide)
        · exact h
      have E := Lib.hid (show RV = MV from by rw [HV.out.rv, hK]; rfl)
      go_wp2_with fail
      go_quiet ((go_at_call 34; exact Calls.quiet_of_same (KW.out _)))
      have HN := Lib.hid (show DI W hb #[.int .i64 (n : Nat), .int .i64 X, .int .i64 (fa Y), .bool (decide (Y < 0)), .int .i64 4, .int .i64 M, .int .i64 C, .int .i64 0, .int .i64 0, .int .i64 0, .int .i64 0, .int .i64 (fr : Nat), .int .i64 ((fr + n : Nat)), .int .i64 0, .int .i64 0] (w5.drewN nq) from ⟨HI.out.res, HI.out.hd, gb_trans HI.out.gb (gb_drewN _ nq _), HI.out.lt⟩)
      generalize w5.drewN nq = w6 at HN ⊢
      clear a0 a1 a2 a3 a4 a5 a6 a7 a8 a9 a10 a11 a12 a13 a14 hlx
      have a0 := blk_cell HN.out.hd 0
      have a1 := blk_cell HN.out.hd 1
      have a2 := blk_cell HN.out.hd 2
      have a3 := blk_cell HN.out.hd 3
      have a4 := blk_cell HN.out.hd 4
      have a5 := blk_cell HN.out.hd 5
      have a6 := blk_cell HN.out.hd 6
      have a7 := blk_cell HN.out.hd 7
      have a8 := blk_cell HN.out.hd 8
      have a9 := blk_cell HN.out.hd 9
      have a10 := blk_cell HN.out.hd 10
      have a11 := blk_cell HN.out.hd 11
      have a12 := blk_cell HN.out.hd 12
      have a13 := blk_cell HN.out.hd 13
      have a14 := blk_cell HN.out.hd 14
      simp only [List.getElem?_toArray, List.getElem?_cons_succ, List.getElem?_cons_zero] at a0 a1 a2 a3 a4 a5 a6 a7 a8 a9 a10 a11 a12 a13 a14
      have hlx := blk_lt HN.out.hd
      by_cases h0 : C = 0
      · subst h0
        have f6 := blk_free HN.out.hd 6
        go_upto_region 34 with fail
        go_wp2_with fail
        refine (KW.out _).mono ?_
        rintro e w' ⟨rfl, rfl⟩
        go_upto_region 35 with fail
        refine abs_w (R := DI W hb #[.int .i64 (n : Nat), .int .i64 X, .int .i64 (fa Y), .bool (decide (Y < 0)), .int .i64 4, .int .i64 M, .int .i64 16, .int .i64 0, .int .i64 0, .int .i64 0, .int .i64 0, .int .i64 (fr : Nat), .int .i64 ((fr + n : Nat)), .int .i64 0, .int .i64 0]) ?_ (fun w7 I7 => ?_)
        · exact ⟨blk_other HN.out.res ne1, blk_set HN.out.hd 6 _, gb_own HN.out.gb (Nat.le_of_lt HN.out.lt) (gb_set _ _ _ _), HN.out.lt⟩
        have HI7 := Lib.hid I7
        clear a0 a1 a2 a3 a4 a5 a6 a7 a8 a9 a10 a11 a12 a13 a14 hlx f6
        have a0 := blk_cell I7.hd 0
        have a1 := blk_cell I7.hd 1
        have a2 := blk_cell I7.hd 2
        have a3 := blk_cell I7.hd 3
        have a4 := blk_cell I7.hd 4
        have a5 := blk_cell I7.hd 5
        have a6 := blk_cell I7.hd 6
        have a7 := blk_cell I7.hd 7
        have a8 := blk_cell I7.hd 8
        have a9 := blk_cell I7.hd 9
        have a10 := blk_cell I7.hd 10
        have a11 := blk_cell I7.hd 11
        have a12 := blk_cell I7.hd 12
        have a13 := blk_cell I7.hd 13
        have a14 := blk_cell I7.hd 14
        simp only [List.getElem?_toArray, List.getElem?_cons_succ, List.getElem?_cons_zero] at a0 a1 a2 a3 a4 a5 a6 a7 a8 a9 a10 a11 a12 a13 a14
        have hlx := blk_lt I7.hd
        clear I7
        go_wp2_with fail
        refine (KM.out _).mono ?_
        rintro e w9 ⟨rfl, g9⟩
        have B9 := old0 g9 HI7.out.res (blk_lt HI7.out.res) (by simp)
        have G9 := Lib.hid (gb_trans HI7.out.gb g9)
        clear g9
        have HB9 := Lib.hid B9
        obtain ⟨z0, z1, z2, z3, z4, z5, z6, z7, z8, z9, z10, z11, z12, z13, z14, hmv⟩ := hMV
        subst hmv
        have r0 := blk_cell B9 0
        have r1 := blk_cell B9 1
        have r2 := blk_cell B9 2
        have r3 := blk_cell B9 3
        have r4 := blk_cell B9 4
        have r5 := blk_cell B9 5
        have r6 := blk_cell B9 6
        have r7 := blk_cell B9 7
        have r8 := blk_cell B9 8
        have r9 := blk_cell B9 9
        have r10 := blk_cell B9 10
        have r11 := blk_cell B9 11
        have r12 := blk_cell B9 12
        have r13 := blk_cell B9 13
        have r14 := blk_cell B9 14
        have rf0 := blk_free B9 0
        have rf1 := blk_free B9 1
        have rf2 := blk_free B9 2
        have rf3 := blk_free B9 3
        have rf4 := blk_free B9 4
        have rf5 := blk_free B9 5
        have rf6 := blk_free B9 6
        have rf7 := blk_free B9 7
        have rf8 := blk_free B9 8
        have rf9 := blk_free B9 9
        have rf10 := blk_free B9 10
        have rf11 := blk_free B9 11
        have rf12 := blk_free B9 12
        have rf13 := blk_free B9 13
        have rf14 := blk_free B9 14
        simp only [List.getElem?_toArray, List.getElem?_cons_succ, List.getElem?_cons_zero] at r0 r1 r2 r3 r4 r5 r6 r7 r8 r9 r10 r11 r12 r13 r14
        have hlr := blk_lt B9
        clear B9
        go_wp2
        refine bodyPost_ret (v := .agg #[.int .i64 z0, .int .i64 z1, .int .i64 z2, .bool z3, .int .i64 z4, .int .i64 z5, .int .i64 z6, .int .i64 z7, .int .i64 z8, .int .i64 z9, .int .i64 z10, .int .i64 z11, .int .i64 z12, .int .i64 z13, .int .i64 z14]) (by simp only [results, Tryd.results11]; go_simp) rfl ⟨by rw [E.out], ?_⟩
        exact gb_own (gb_own (gb_own (gb_own (gb_own (gb_own (gb_own (gb_own (gb_own (gb_own (gb_own (gb_own (gb_own (gb_own (gb_own (G9.out) (Nat.le_refl _) (gb_set _ _ _ _)) (Nat.le_refl _) (gb_set _ _ _ _)) (Nat.le_refl _) (gb_set _ _ _ _)) (Nat.le_refl _) (gb_set _ _ _ _)) (Nat.le_refl _) (gb_set _ _ _ _)) (Nat.le_refl _) (gb_set _ _ _ _)) (Nat.le_refl _) (gb_set _ _ _ _)) (Nat.le_refl _) (gb_set _ _ _ _)) (Nat.le_refl _) (gb_set _ _ _ _)) (Nat.le_refl _) (gb_set _ _ _ _)) (Nat.le_refl _) (gb_set _ _ _ _)) (Nat.le_refl _) (gb_set _ _ _ _)) (Nat.le_refl _) (gb_set _ _ _ _)) (Nat.le_refl _) (gb_set _ _ _ _)) (Nat.le_refl _) (gb_set _ _ _ _)
      · have hc0 : (C == 0) = false := by rw [beq_eq_false_iff_ne]; exact h0
        rw [show clrC 4 C = C from if_neg h0] at KM
        go_wp2_with fail
        refine (KM.out _).mono ?_
        rintro e w9 ⟨rfl, g9⟩
        have B9 := old0 g9 HN.out.res (blk_lt HN.out.res) (by simp)
        have G9 := Lib.hid (gb_trans HN.out.gb g9)
        clear g9
        have HB9 := Lib.hid B9
        obtain ⟨z0, z1, z2, z3, z4, z5, z6, z7, z8, z9, z10, z11, z12, z13, z14, hmv⟩ := hMV
        subst hmv
        have r0 := blk_cell B9 0
        have r1 := blk_cell B9 1
        have r2 := blk_cell B9 2
        have r3 := blk_cell B9 3
        have r4 := blk_cell B9 4
        have r5 := blk_cell B9 5
        have r6 := blk_cell B9 6
        have r7 := blk_cell B9 7
        have r8 := blk_cell B9 8
        have r9 := blk_cell B9 9
        have r10 := blk_cell B9 10
        have r11 := blk_cell B9 11
        have r12 := blk_cell B9 12
        have r13 := blk_cell B9 13
        have r14 := blk_cell B9 14
        have rf0 := blk_free B9 0
        have rf1 := blk_free B9 1
        have rf2 := blk_free B9 2
        have rf3 := blk_free B9 3
        have rf4 := blk_free B9 4
        have rf5 := blk_free B9 5
        have rf6 := blk_free B9 6
        have rf7 := blk_free B9 7
        have rf8 := blk_free B9 8
        have rf9 := blk_free B9 9
        have rf10 := blk_free B9 10
        have rf11 := blk_free B9 11
        have rf12 := blk_free B9 12
        have rf13 := blk_free B9 13
        have rf14 := blk_free B9 14
        simp only [List.getElem?_toArray, List.getElem?_cons_succ, List.getElem?_cons_zero] at r0 r1 r2 r3 r4 r5 r6 r7 r8 r9 r10 r11 r12 r13 r14
        have hlr := blk_lt B9
        clear B9
        go_wp2
        refine bodyPost_ret (v := .agg #[.int .i64 z0, .int .i64 z1, .int .i64 z2, .bool z3, .int .i64 z4, .int .i64 z5, .int .i64 z6, .int .i64 z7, .int .i64 z8, .int .i64 z9, .int .i64 z10, .int .i64 z11, .int .i64 z12, .int .i64 z13, .int .i64 z14]) (by simp only [results, Tryd.results11]; go_simp) rfl ⟨by rw [E.out], ?_⟩
        exact gb_own (gb_own (gb_own (gb_own (gb_own (gb_own (gb_own (gb_own (gb_own (gb_own (gb_own (gb_own (gb_own (gb_own (gb_own (G9.out) (Nat.le_refl _) (gb_set _ _ _ _)) (Nat.le_refl _) (gb_set _ _ _ _)) (Nat.le_refl _) (gb_set _ _ _ _)) (Nat.le_refl _) (gb_set _ _ _ _)) (Nat.le_refl _) (gb_set _ _ _ _)) (Nat.le_refl _) (gb_set _ _ _ _)) (Nat.le_refl _) (gb_set _ _ _ _)) (Nat.le_refl _) (gb_set _ _ _ _)) (Nat.le_refl _) (gb_set _ _ _ _)) (Nat.le_refl _) (gb_set _ _ _ _)) (Nat.le_refl _) (gb_set _ _ _ _)) (Nat.le_refl _) (gb_set _ _ _ _)) (Nat.le_refl _) (gb_set _ _ _ _)) (Nat.le_refl _) (gb_set _ _ _ _)) (Nat.le_refl _) (gb_set _ _ _ _)

end Go.Proofs.YtikjfmpdfeaooaaDoor.Dh

/- The document's Read of a long head, from the count's test on: pixels of 8 bits (written by wip/gen/di1.py). -/
namespace Go.Proofs.YtikjfmpdfeaooaaDoor.Dh
open Go.ChangeShapes Go.WideShapes Go.ChangeAt Go.RowKit
open Go.Proofs.YtikjfmpdfeaooaaDoor.Le Go.Proofs.YtikjfmpdfeaooaaDoor.Sr Go.Proofs.YtikjfmpdfeaooaaDoor.Ma
set_option linter.unusedVariables false

set_option maxRecDepth 100000 in
set_option maxHeartbeats 16000000 in
theorem from17_8 (s b : ByteArray) (fr to n K : Nat) (X Y P M C : Int) (RV MV : Array Value) (W : World) (DVh : DV fr n K X Y P 8 M C RV MV) (KM0 : ∀ u, Calls Tryd.prog 35 #[.string s, .agg #[.int .i64 (n : Nat), .int .i64 X, .int .i64 (fa Y), .bool (decide (Y < 0)), .int .i64 8, .int .i64 M, .int .i64 (clrC 8 C), .int .i64 0, .int .i64 0, .int .i64 0, .int .i64 0, .int .i64 (fr : Nat), .int .i64 ((fr + n : Nat)), .int .i64 0, .int .i64 0], .int .i64 (to : Nat)] u fun e w' => e = .returned (.agg MV) ∧ u.grownBy w' none) (KP0 : ∀ u, Calls Tryd.prog 29 #[.string (b.extract 12 (12 + 2))] u fun e w' => e = .returned (.int .i64 P) ∧ u = w') (hb40 : 40 ≤ b.size) (hbm : b.size ≤ 9223372036854775807) (hMV : MVis MV) (lo : 9 ≤ K) (hb : Nat) (w5 : World) (I : DI W hb #[.int .i64 (n : Nat), .int .i64 X, .int .i64 (fa Y), .bool (decide (Y < 0)), .int .i64 8, .int .i64 M, .int .i64 C, .int .i64 0, .int .i64 0, .int .i64 0, .int .i64 0, .int .i64 (fr : Nat), .int .i64 ((fr + n : Nat)), .int .i64 0, .int .i64 0] w5) 
    (u10 u11 u12 u13 u14 u15 u16 u17 u18 u19 u20 u21 u22 u23 u24 u25 u26 u27 u28 u29 u30 u31 u32 u33 u34 u35 u36 u37 u38 u39 u40 u41 u42 u43 u44 u45 u46 u47 u48 u49 u50 u51 u52 u53 u54 u55 u56 u57 u58 u59 u60 u61 u62 u63 u64 u65 u66 u67 u68 u69 u70 u71 u72 u73 u74 u75 u76 u77 u78 u79 u80 u81 u82 u83 u84 u85 u86 u87 u88 u89 u90 u91 u92 u93 u94 u95 u96 u97 u98 u99 u100 u101 u102 u103 u104 u105 u106 u107 u108 u109 u110 u111 u112 u113 u114 u115 u116 u117 u118 u119 u120 u121 u122 u123 u124 u125 u126 u127 u128 u129 u130 u131 u132 u133 u134 u135 u136 u137 u138 u139 u140 u141 u142 u143 u144 u145 u146 u147 u148 u149 u150 u151 u152 u153 u154 u155 u156 u157 u158 u159 u160 u161 u162 u163 u164 u165 u166 u167 u168 u169 u170 u171 u172 u173 u174 u175 u176 u177 u178 u179 u180 u181 u182 u183 u184 u185 u186 u187 u188 u189 u190 u191 u192 u193 u194 u195 u196 u197 u198 u199 u200 u201 u202 u203 u204 u205 u206 u207 u208 u209 u210 u211 u212 u213 u214 u215 u216 u217 u218 u219 u220 u221 u222 u223 u224 u225 u226 u227 u228 u229 u230 u231 : Value) (K1 K2 : Act → World → Prop) (k1 : ∀ a w, Code.wp Tryd.prog (tl7 (hd7 (tl7 (tl7 (tl7 (tl7 (tl7 (tl7 (tl7 (tl7 (tl7 (tl7 (tl7 (tl7 (tl7 (tl7 (tl7 (tl7 (tl7 (bd20)))))))))))))))))))) (Exit.then K2 (bodyPost Tryd.prog Tryd.f11 (fun e w' => e = .returned (.agg RV) ∧ W.grownBy w' none))) a w → K1 a w) (k2 : ∀ a w, Code.wp Tryd.prog (tl7 (tl7 (tl7 (tl7 (tl7 (tl7 (tl7 (tl7 (tl7 (tl7 (tl7 (tl7 (tl7 (tl7 (tl7 (tl7 (tl7 (tl7 (bd20))))))))))))))))))) (bodyPost Tryd.prog Tryd.f11 (fun e w' => e = .returned (.agg RV) ∧ W.grownBy w' none)) a w → K2 a w) :
    Code.wp Tryd.prog (hd7 (hd7 (tl7 (tl7 (tl7 (tl7 (tl7 (tl7 (tl7 (tl7 (tl7 (tl7 (tl7 (tl7 (tl7 (tl7 (tl7 (tl7 (tl7 (bd20)))))))))))))))))))) (Exit.then K1 (Exit.then K2 (bodyPost Tryd.prog Tryd.f11 (fun e w' => e = .returned (.agg RV) ∧ W.grownBy w' none)))) { tmps := #[.string s, .int .i64 (fr : Nat), .int .i64 (to : Nat), undef, undef, undef, .pointer (some ⟨W.heap.size, 0, none⟩), .int .i64 (n : Nat), .string b, .pointer (some ⟨hb, 0, none⟩), u10, u11, u12, u13, u14, u15, u16, u17, u18, u19, u20, u21, u22, u23, u24, u25, u26, u27, u28, u29, u30, u31, u32, u33, u34, u35, u36, u37, u38, u39, u40, u41, u42, u43, u44, u45, u46, u47, u48, u49, u50, u51, u52, u53, u54, u55, u56, u57, u58, u59, u60, u61, u62, u63, u64, u65, u66, u67, u68, u69, u70, u71, u72, u73, u74, u75, u76, u77, u78, u79, u80, u81, u82, u83, u84, u85, u86, u87, u88, u89, u90, u91, u92, u93, u94, u95, u96, u97, u98, u99, u100, u101, u102, u103, u104, u105, u106, u107, u108, u109, u110, u111, u112, u113, u114, u115, u116, u117, u118, u119, u120, u121, u122, u123, u124, u125, u126, u127, u128, u129, u130, u131, u132, u133, u134, u135, u136, u137, u138, u139, u140, u141, u142, u143, u144, u145, u146, u147, u148, u149, u150, u151, u152, u153, u154, u155, u156, u157, u158, u159, u160, u161, u162, u163, u164, u165, u166, u167, u168, u169, u170, u171, u172, u173, u174, u175, u176, u177, u178, u179, u180, u181, u182, u183, u184, u185, u186, u187, u188, u189, u190, u191, u192, u193, u194, u195, u196, u197, u198, u199, u200, u201, u202, u203, u204, u205, u206, u207, u208, u209, u210, u211, u212, u213, u214, u215, u216, u217, u218, u219, u220, u221, u222, u223, u224, u225, u226, u227, u228, u229, u230, u231], defers := [] } w5 := by
  have HV := Lib.hid DVh
  have KM := Lib.hid KM0
  have KP := Lib.hid KP0
  have HB40 := Lib.hid (And.intro hb40 hbm)
  have HLO := Lib.hid lo
  have ne1 : W.heap.size ≠ hb := by have := I.lt; omega
  have ne2 : hb ≠ W.heap.size := by have := I.lt; omega
  have HI := Lib.hid I
  have hfr := DVh.fle
  have hnl := DVh.nle
  clear DVh KM0 KP0 lo hb40 hbm
  conv => arg 2; whnf
  conv => arg 4; dsimp only
  conv at k1 => enter [a, w, 1, 2]; whnf
  conv at k2 => enter [a, w, 1, 2]; whnf
  have a0 := blk_cell I.hd 0
  have a1 := blk_cell I.hd 1
  have a2 := blk_cell I.hd 2
  have a3 := blk_cell I.hd 3
  have a4 := blk_cell I.hd 4
  have a5 := blk_cell I.hd 5
  have a6 := blk_cell I.hd 6
  have a7 := blk_cell I.hd 7
  have a8 := blk_cell I.hd 8
  have a9 := blk_cell I.hd 9
  have a10 := blk_cell I.hd 10
  have a11 := blk_cell I.hd 11
  have a12 := blk_cell I.hd 12
  have a13 := blk_cell I.hd 13
  have a14 := blk_cell I.hd 14
  simp only [List.getElem?_toArray, List.getElem?_cons_succ, List.getElem?_cons_zero] at a0 a1 a2 a3 a4 a5 a6 a7 a8 a9 a10 a11 a12 a13 a14
  have hlx := blk_lt I.hd
  clear I
  have hK9 : K = 9 ∨ K = 10 := by have := HLO.out; have := HV.out.f.le; omega
  have c9 : ckD n X Y P 8 M C 9 = decide (mstC 8 < C) := rfl
  have cc := HV.out.c0
  have HD := trivial
  · have KW := Lib.hid (show ∀ u, Calls Tryd.prog 34 #[.int .i64 8] u fun e w' => e = .returned (.int .i64 256) ∧ w' = u from fun u => (Go.Proofs.YtikjfmpdfeaooaaDoor.Sc.power_calls 8 u (by decide)).mono (fun _ _ h => ⟨h.1, h.2.symm⟩))
    rw [show mstC 8 = 256 from rfl] at c9
    by_cases h9 : (256 : Int) < C
    · have hK : K = 9 := by
        rcases hK9 with h | h
        · exact h
        · have h2 := HV.out.f.no 9 (by omega)
          rw [c9, decide_eq_true h9] at h2
          exact absurd h2 (by decide)
      go_wp2_with fail
      go_quiet ((go_at_call 34; exact Calls.quiet_of_same (KW.out _)))
      have HN := Lib.hid (show DI W hb #[.int .i64 (n : Nat), .int .i64 X, .int .i64 (fa Y), .bool (decide (Y < 0)), .int .i64 8, .int .i64 M, .int .i64 C, .int .i64 0, .int .i64 0, .int .i64 0, .int .i64 0, .int .i64 (fr : Nat), .int .i64 ((fr + n : Nat)), .int .i64 0, .int .i64 0] (w5.drewN nq) from ⟨HI.out.res, HI.out.hd, gb_trans HI.out.gb (gb_drewN _ nq _), HI.out.lt⟩)
      generalize w5.drewN nq = w6 at HN ⊢
      have E := Lib.hid (show RV = badA 2 ((fr : Int) + 32) from HV.out.bad 9 (by decide) hK)
      have KB := Lib.hid (fun u => rbad_calls 2 ((fr : Int) + 32) u)
      have hwp : IntKind.i64.wrap ((fr : Int) + 32) = (fr : Int) + 32 := IntWalk.i64_in _ (by omega)
      unfold badA at KB
      go_wp2_with fail

      

      refine (KB.out _).mono ?_
      rintro e w9 ⟨rfl, g9⟩
      have B9 := old0 g9 HN.out.res (blk_lt HN.out.res) (by simp)
      have r0 := blk_cell B9 0
      have r1 := blk_cell B9 1
      have r2 := blk_cell B9 2
      have r3 := blk_cell B9 3
      have r4 := blk_cell B9 4
      have r5 := blk_cell B9 5
      have r6 := blk_cell B9 6
      have r7 := blk_cell B9 7
      have r8 := blk_cell B9 8
      have r9 := blk_cell B9 9
      have r10 := blk_cell B9 10
      have r11 := blk_cell B9 11
      have r12 := blk_cell B9 12
      have r13 := blk_cell B9 13
      have r14 := blk_cell B9 14
      have rf0 := blk_free B9 0
      have rf1 := blk_free B9 1
      have rf2 := blk_free B9 2
      have rf3 := blk_free B9 3
      have rf4 := blk_free B9 4
      have rf5 := blk_free B9 5
      have rf6 := blk_free B9 6
      have rf7 := blk_free B9 7
      have rf8 := blk_free B9 8
      have rf9 := blk_free B9 9
      have rf10 := blk_free B9 10
      have rf11 := blk_free B9 11
      have rf12 := blk_free B9 12
      have rf13 := blk_free B9 13
      have rf14 := blk_free B9 14
      simp only [List.getElem?_toArray, List.getElem?_cons_succ, List.getElem?_cons_zero] at r0 r1 r2 r3 r4 r5 r6 r7 r8 r9 r10 r11 r12 r13 r14
      have hlr := blk_lt B9
      have G9 := Lib.hid (gb_trans HN.out.gb g9)
      clear g9 B9 KB
      go_wp2
      refine bodyPost_ret (v := .agg (badA 2 ((fr : Int) + 32))) (by simp only [results, Tryd.results11, badA]; go_simp) rfl ⟨by rw [E.out], ?_⟩
      exact gb_own (gb_own (gb_own (gb_own (gb_own (gb_own (gb_own (gb_own (gb_own (gb_own (gb_own (gb_own (gb_own (gb_own (gb_own (G9.out) (Nat.le_refl _) (gb_set _ _ _ _)) (Nat.le_refl _) (gb_set _ _ _ _)) (Nat.le_refl _) (gb_set _ _ _ _)) (Nat.le_refl _) (gb_set _ _ _ _)) (Nat.le_refl _) (gb_set _ _ _ _)) (Nat.le_refl _) (gb_set _ _ _ _)) (Nat.le_refl _) (gb_set _ _ _ _)) (Nat.le_refl _) (gb_set _ _ _ _)) (Nat.le_refl _) (gb_set _ _ _ _)) (Nat.le_refl _) (gb_set _ _ _ _)) (Nat.le_refl _) (gb_set _ _ _ _)) (Nat.le_refl _) (gb_set _ _ _ _)) (Nat.le_refl _) (gb_set _ _ _ _)) (Nat.le_refl _) (gb_set _ _ _ _)) (Nat.le_refl _) (gb_set _ _ _ _)
    · have hK : K = 10 := by
        rcases hK9 with h | h
        · have h2 := HV.out.f.yes (by omega)
          rw [h, c9, decide_eq_false h9] at h2
          exact absurd h2 (by decide)
        · exact h
      have E := Lib.hid (show RV = MV from by rw [HV.out.rv, hK]; rfl)
      go_wp2_with fail
      go_quiet ((go_at_call 34; exact Calls.quiet_of_same (KW.out _)))
      have HN := Lib.hid (show DI W hb #[.int .i64 (n : Nat), .int .i64 X, .int .i64 (fa Y), .bool (decide (Y < 0)), .int .i64 8, .int .i64 M, .int .i64 C, .int .i64 0, .int .i64 0, .int .i64 0, .int .i64 0, .int .i64 (fr : Nat), .int .i64 ((fr + n : Nat)), .int .i64 0, .int .i64 0] (w5.drewN nq) from ⟨HI.out.res, HI.out.hd, gb_trans HI.out.gb (gb_drewN _ nq _), HI.out.lt⟩)
      generalize w5.drewN nq = w6 at HN ⊢
      clear a0 a1 a2 a3 a4 a5 a6 a7 a8 a9 a10 a11 a12 a13 a14 hlx
      have a0 := blk_cell HN.out.hd 0
      have a1 := blk_cell HN.out.hd 1
      have a2 := blk_cell HN.out.hd 2
      have a3 := blk_cell HN.out.hd 3
      have a4 := blk_cell HN.out.hd 4
      have a5 := blk_cell HN.out.hd 5
      have a6 := blk_cell HN.out.hd 6
      have a7 := blk_cell HN.out.hd 7
      have a8 := blk_cell HN.out.hd 8
      have a9 := blk_cell HN.out.hd 9
      have a10 := blk_cell HN.out.hd 10
      have a11 := blk_cell HN.out.hd 11
      have a12 := blk_cell HN.out.hd 12
      have a13 := blk_cell HN.out.hd 13
      have a14 := blk_cell HN.out.hd 14
      simp only [List.getElem?_toArray, List.getElem?_cons_succ, List.getElem?_cons_zero] at a0 a1 a2 a3 a4 a5 a6 a7 a8 a9 a10 a11 a12 a13 a14
      have hlx := blk_lt HN.out.hd
      by_cases h0 : C = 0
      · subst h0
        have f6 := blk_free HN.out.hd 6
        go_upto_region 34 with fail
        go_wp2_with fail
        refine (KW.out _).mono ?_
        rintro e w' ⟨rfl, rfl⟩
        go_upto_region 35 with fail
        refine abs_w (R := DI W hb #[.int .i64 (n : Nat), .int .i64 X, .int .i64 (fa Y), .bool (decide (Y < 0)), .int .i64 8, .int .i64 M, .int .i64 256, .int .i64 0, .int .i64 0, .int .i64 0, .int .i64 0, .int .i64 (fr : Nat), .int .i64 ((fr + n : Nat)), .int .i64 0, .int .i64 0]) ?_ (fun w7 I7 => ?_)
        · exact ⟨blk_other HN.out.res ne1, blk_set HN.out.hd 6 _, gb_own HN.out.gb (Nat.le_of_lt HN.out.lt) (gb_set _ _ _ _), HN.out.lt⟩
        have HI7 := Lib.hid I7
        clear a0 a1 a2 a3 a4 a5 a6 a7 a8 a9 a10 a11 a12 a13 a14 hlx f6
        have a0 := blk_cell I7.hd 0
        have a1 := blk_cell I7.hd 1
        have a2 := blk_cell I7.hd 2
        have a3 := blk_cell I7.hd 3
        have a4 := blk_cell I7.hd 4
        have a5 := blk_cell I7.hd 5
        have a6 := blk_cell I7.hd 6
        have a7 := blk_cell I7.hd 7
        have a8 := blk_cell I7.hd 8
        have a9 := blk_cell I7.hd 9
        have a10 := blk_cell I7.hd 10
        have a11 := blk_cell I7.hd 11
        have a12 := blk_cell I7.hd 12
        have a13 := blk_cell I7.hd 13
        have a14 := blk_cell I7.hd 14
        simp only [List.getElem?_toArray, List.getElem?_cons_succ, List.getElem?_cons_zero] at a0 a1 a2 a3 a4 a5 a6 a7 a8 a9 a10 a11 a12 a13 a14
        have hlx := blk_lt I7.hd
        clear I7
        go_wp2_with fail
        refine (KM.out _).mono ?_
        rintro e w9 ⟨rfl, g9⟩
        have B9 := old0 g9 HI7.out.res (blk_lt HI7.out.res) (by simp)
        have G9 := Lib.hid (gb_trans HI7.out.gb g9)
        clear g9
        have HB9 := Lib.hid B9
        obtain ⟨z0, z1, z2, z3, z4, z5, z6, z7, z8, z9, z10, z11, z12, z13, z14, hmv⟩ := hMV
        subst hmv
        have r0 := blk_cell B9 0
        have r1 := blk_cell B9 1
        have r2 := blk_cell B9 2
        have r3 := blk_cell B9 3
        have r4 := blk_cell B9 4
        have r5 := blk_cell B9 5
        have r6 := blk_cell B9 6
        have r7 := blk_cell B9 7
        have r8 := blk_cell B9 8
        have r9 := blk_cell B9 9
        have r10 := blk_cell B9 10
        have r11 := blk_cell B9 11
        have r12 := blk_cell B9 12
        have r13 := blk_cell B9 13
        have r14 := blk_cell B9 14
        have rf0 := blk_free B9 0
        have rf1 := blk_free B9 1
        have rf2 := blk_free B9 2
        have rf3 := blk_free B9 3
        have rf4 := blk_free B9 4
        have rf5 := blk_free B9 5
        have rf6 := blk_free B9 6
        have rf7 := blk_free B9 7
        have rf8 := blk_free B9 8
        have rf9 := blk_free B9 9
        have rf10 := blk_free B9 10
        have rf11 := blk_free B9 11
        have rf12 := blk_free B9 12
        have rf13 := blk_free B9 13
        have rf14 := blk_free B9 14
        simp only [List.getElem?_toArray, List.getElem?_cons_succ, List.getElem?_cons_zero] at r0 r1 r2 r3 r4 r5 r6 r7 r8 r9 r10 r11 r12 r13 r14
        have hlr := blk_lt B9
        clear B9
        go_wp2
        refine bodyPost_ret (v := .agg #[.int .i64 z0, .int .i64 z1, .int .i64 z2, .bool z3, .int .i64 z4, .int .i64 z5, .int .i64 z6, .int .i64 z7, .int .i64 z8, .int .i64 z9, .int .i64 z10, .int .i64 z11, .int .i64 z12, .int .i64 z13, .int .i64 z14]) (by simp only [results, Tryd.results11]; go_simp) rfl ⟨by rw [E.out], ?_⟩
        exact gb_own (gb_own (gb_own (gb_own (gb_own (gb_own (gb_own (gb_own (gb_own (gb_own (gb_own (gb_own (gb_own (gb_own (gb_own (G9.out) (Nat.le_refl _) (gb_set _ _ _ _)) (Nat.le_refl _) (gb_set _ _ _ _)) (Nat.le_refl _) (gb_set _ _ _ _)) (Nat.le_refl _) (gb_set _ _ _ _)) (Nat.le_refl _) (gb_set _ _ _ _)) (Nat.le_refl _) (gb_set _ _ _ _)) (Nat.le_refl _) (gb_set _ _ _ _)) (Nat.le_refl _) (gb_set _ _ _ _)) (Nat.le_refl _) (gb_set _ _ _ _)) (Nat.le_refl _) (gb_set _ _ _ _)) (Nat.le_refl _) (gb_set _ _ _ _)) (Nat.le_refl _) (gb_set _ _ _ _)) (Nat.le_refl _) (gb_set _ _ _ _)) (Nat.le_refl _) (gb_set _ _ _ _)) (Nat.le_refl _) (gb_set _ _ _ _)
      · have hc0 : (C == 0) = false := by rw [beq_eq_false_iff_ne]; exact h0
        rw [show clrC 8 C = C from if_neg h0] at KM
        go_wp2_with fail
        refine (KM.out _).mono ?_
        rintro e w9 ⟨rfl, g9⟩
        have B9 := old0 g9 HN.out.res (blk_lt HN.out.res) (by simp)
        have G9 := Lib.hid (gb_trans HN.out.gb g9)
        clear g9
        have HB9 := Lib.hid B9
        obtain ⟨z0, z1, z2, z3, z4, z5, z6, z7, z8, z9, z10, z11, z12, z13, z14, hmv⟩ := hMV
        subst hmv
        have r0 := blk_cell B9 0
        have r1 := blk_cell B9 1
        have r2 := blk_cell B9 2
        have r3 := blk_cell B9 3
        have r4 := blk_cell B9 4
        have r5 := blk_cell B9 5
        have r6 := blk_cell B9 6
        have r7 := blk_cell B9 7
        have r8 := blk_cell B9 8
        have r9 := blk_cell B9 9
        have r10 := blk_cell B9 10
        have r11 := blk_cell B9 11
        have r12 := blk_cell B9 12
        have r13 := blk_cell B9 13
        have r14 := blk_cell B9 14
        have rf0 := blk_free B9 0
        have rf1 := blk_free B9 1
        have rf2 := blk_free B9 2
        have rf3 := blk_free B9 3
        have rf4 := blk_free B9 4
        have rf5 := blk_free B9 5
        have rf6 := blk_free B9 6
        have rf7 := blk_free B9 7
        have rf8 := blk_free B9 8
        have rf9 := blk_free B9 9
        have rf10 := blk_free B9 10
        have rf11 := blk_free B9 11
        have rf12 := blk_free B9 12
        have rf13 := blk_free B9 13
        have rf14 := blk_free B9 14
        simp only [List.getElem?_toArray, List.getElem?_cons_succ, List.getElem?_cons_zero] at r0 r1 r2 r3 r4 r5 r6 r7 r8 r9 r10 r11 r12 r13 r14
        have hlr := blk_lt B9
        clear B9
        go_wp2
        refine bodyPost_ret (v := .agg #[.int .i64 z0, .int .i64 z1, .int .i64 z2, .bool z3, .int .i64 z4, .int .i64 z5, .int .i64 z6, .int .i64 z7, .int .i64 z8, .int .i64 z9, .int .i64 z10, .int .i64 z11, .int .i64 z12, .int .i64 z13, .int .i64 z14]) (by simp only [results, Tryd.results11]; go_simp) rfl ⟨by rw [E.out], ?_⟩
        exact gb_own (gb_own (gb_own (gb_own (gb_own (gb_own (gb_own (gb_own (gb_own (gb_own (gb_own (gb_own (gb_own (gb_own (gb_own (G9.out) (Nat.le_refl _) (gb_set _ _ _ _)) (Nat.le_refl _) (gb_set _ _ _ _)) (Nat.le_refl _) (gb_set _ _ _ _)) (Nat.le_refl _) (gb_set _ _ _ _)) (Nat.le_refl _) (gb_set _ _ _ _)) (Nat.le_refl _) (gb_set _ _ _ _)) (Nat.le_refl _) (gb_set _ _ _ _)) (Nat.le_refl _) (gb_set _ _ _ _)) (Nat.le_refl _) (gb_set _ _ _ _)) (Nat.le_refl _) (gb_set _ _ _ _)) (Nat.le_refl _) (gb_set _ _ _ _)) (Nat.le_refl _) (gb_set _ _ _ _)) (Nat.le_refl _) (gb_set _ _ _ _)) (Nat.le_refl _) (gb_set _ _ _ _)) (Nat.le_refl _) (gb_set _ _ _ _)

end Go.Proofs.YtikjfmpdfeaooaaDoor.Dh

/- The document's Read of a long head, from the count's test on: pixels of 16 bits (written by wip/gen/di1.py). -/
namespace Go.Proofs.YtikjfmpdfeaooaaDoor.Dh
open Go.ChangeShapes Go.WideShapes Go.ChangeAt Go.RowKit
open Go.Proofs.YtikjfmpdfeaooaaDoor.Le Go.Proofs.YtikjfmpdfeaooaaDoor.Sr Go.Proofs.YtikjfmpdfeaooaaDoor.Ma
set_option linter.unusedVariables false

set_option maxRecDepth 100000 in
set_option maxHeartbeats 16000000 in
theorem from17_16 (s b : ByteArray) (fr to n K : Nat) (X Y P M C : Int) (RV MV : Array Value) (W : World) (DVh : DV fr n K X Y P 16 M C RV MV) (KM0 : ∀ u, Calls Tryd.prog 35 #[.string s, .agg #[.int .i64 (n : Nat), .int .i64 X, .int .i64 (fa Y), .bool (decide (Y < 0)), .int .i64 16, .int .i64 M, .int .i64 (clrC 16 C), .int .i64 0, .int .i64 0, .int .i64 0, .int .i64 0, .int .i64 (fr : Nat), .int .i64 ((fr + n : Nat)), .int .i64 0, .int .i64 0], .int .i64 (to : Nat)] u fun e w' => e = .returned (.agg MV) ∧ u.grownBy w' none) (KP0 : ∀ u, Calls Tryd.prog 29 #[.string (b.extract 12 (12 + 2))] u fun e w' => e = .returned (.int .i64 P) ∧ u = w') (hb40 : 40 ≤ b.size) (hbm : b.size ≤ 9223372036854775807) (hMV : MVis MV) (lo : 9 ≤ K) (hb : Nat) (w5 : World) (I : DI W hb #[.int .i64 (n : Nat), .int .i64 X, .int .i64 (fa Y), .bool (decide (Y < 0)), .int .i64 16, .int .i64 M, .int .i64 C, .int .i64 0, .int .i64 0, .int .i64 0, .int .i64 0, .int .i64 (fr : Nat), .int .i64 ((fr + n : Nat)), .int .i64 0, .int .i64 0] w5) 
    (u10 u11 u12 u13 u14 u15 u16 u17 u18 u19 u20 u21 u22 u23 u24 u25 u26 u27 u28 u29 u30 u31 u32 u33 u34 u35 u36 u37 u38 u39 u40 u41 u42 u43 u44 u45 u46 u47 u48 u49 u50 u51 u52 u53 u54 u55 u56 u57 u58 u59 u60 u61 u62 u63 u64 u65 u66 u67 u68 u69 u70 u71 u72 u73 u74 u75 u76 u77 u78 u79 u80 u81 u82 u83 u84 u85 u86 u87 u88 u89 u90 u91 u92 u93 u94 u95 u96 u97 u98 u99 u100 u101 u102 u103 u104 u105 u106 u107 u108 u109 u110 u111 u112 u113 u114 u115 u116 u117 u118 u119 u120 u121 u122 u123 u124 u125 u126 u127 u128 u129 u130 u131 u132 u133 u134 u135 u136 u137 u138 u139 u140 u141 u142 u143 u144 u145 u146 u147 u148 u149 u150 u151 u152 u153 u154 u155 u156 u157 u158 u159 u160 u161 u162 u163 u164 u165 u166 u167 u168 u169 u170 u171 u172 u173 u174 u175 u176 u177 u178 u179 u180 u181 u182 u183 u184 u185 u186 u187 u188 u189 u190 u191 u192 u193 u194 u195 u196 u197 u198 u199 u200 u201 u202 u203 u204 u205 u206 u207 u208 u209 u210 u211 u212 u213 u214 u215 u216 u217 u218 u219 u220 u221 u222 u223 u224 u225 u226 u227 u228 u229 u230 u231 : Value) (K1 K2 : Act → World → Prop) (k1 : ∀ a w, Code.wp Tryd.prog (tl7 (hd7 (tl7 (tl7 (tl7 (tl7 (tl7 (tl7 (tl7 (tl7 (tl7 (tl7 (tl7 (tl7 (tl7 (tl7 (tl7 (tl7 (tl7 (bd20)))))))))))))))))))) (Exit.then K2 (bodyPost Tryd.prog Tryd.f11 (fun e w' => e = .returned (.agg RV) ∧ W.grownBy w' none))) a w → K1 a w) (k2 : ∀ a w, Code.wp Tryd.prog (tl7 (tl7 (tl7 (tl7 (tl7 (tl7 (tl7 (tl7 (tl7 (tl7 (tl7 (tl7 (tl7 (tl7 (tl7 (tl7 (tl7 (tl7 (bd20))))))))))))))))))) (bodyPost Tryd.prog Tryd.f11 (fun e w' => e = .returned (.agg RV) ∧ W.grownBy w' none)) a w → K2 a w) :
    Code.wp Tryd.prog (hd7 (hd7 (tl7 (tl7 (tl7 (tl7 (tl7 (tl7 (tl7 (tl7 (tl7 (tl7 (tl7 (tl7 (tl7 (tl7 (tl7 (tl7 (tl7 (bd20)))))))))))))))))))) (Exit.then K1 (Exit.then K2 (bodyPost Tryd.prog Tryd.f11 (fun e w' => e = .returned (.agg RV) ∧ W.grownBy w' none)))) { tmps := #[.string s, .int .i64 (fr : Nat), .int .i64 (to : Nat), undef, undef, undef, .pointer (some ⟨W.heap.size, 0, none⟩), .int .i64 (n : Nat), .string b, .pointer (some ⟨hb, 0, none⟩), u10, u11, u12, u13, u14, u15, u16, u17, u18, u19, u20, u21, u22, u23, u24, u25, u26, u27, u28, u29, u30, u31, u32, u33, u34, u35, u36, u37, u38, u39, u40, u41, u42, u43, u44, u45, u46, u47, u48, u49, u50, u51, u52, u53, u54, u55, u56, u57, u58, u59, u60, u61, u62, u63, u64, u65, u66, u67, u68, u69, u70, u71, u72, u73, u74, u75, u76, u77, u78, u79, u80, u81, u82, u83, u84, u85, u86, u87, u88, u89, u90, u91, u92, u93, u94, u95, u96, u97, u98, u99, u100, u101, u102, u103, u104, u105, u106, u107, u108, u109, u110, u111, u112, u113, u114, u115, u116, u117, u118, u119, u120, u121, u122, u123, u124, u125, u126, u127, u128, u129, u130, u131, u132, u133, u134, u135, u136, u137, u138, u139, u140, u141, u142, u143, u144, u145, u146, u147, u148, u149, u150, u151, u152, u153, u154, u155, u156, u157, u158, u159, u160, u161, u162, u163, u164, u165, u166, u167, u168, u169, u170, u171, u172, u173, u174, u175, u176, u177, u178, u179, u180, u181, u182, u183, u184, u185, u186, u187, u188, u189, u190, u191, u192, u193, u194, u195, u196, u197, u198, u199, u200, u201, u202, u203, u204, u205, u206, u207, u208, u209, u210, u211, u212, u213, u214, u215, u216, u217, u218, u219, u220, u221, u222, u223, u224, u225, u226, u227, u228, u229, u230, u231], defers := [] } w5 := by
  have HV := Lib.hid DVh
  have KM := Lib.hid KM0
  have KP := Lib.hid KP0
  have HB40 := Lib.hid (And.intro hb40 hbm)
  have HLO := Lib.hid lo
  have ne1 : W.heap.size ≠ hb := by have := I.lt; omega
  have ne2 : hb ≠ W.heap.size := by have := I.lt; omega
  have HI := Lib.hid I
  have hfr := DVh.fle
  have hnl := DVh.nle
  clear DVh KM0 KP0 lo hb40 hbm
  conv => arg 2; whnf
  conv => arg 4; dsimp only
  conv at k1 => enter [a, w, 1, 2]; whnf
  conv at k2 => enter [a, w, 1, 2]; whnf
  have a0 := blk_cell I.hd 0
  have a1 := blk_cell I.hd 1
  have a2 := blk_cell I.hd 2
  have a3 := blk_cell I.hd 3
  have a4 := blk_cell I.hd 4
  have a5 := blk_cell I.hd 5
  have a6 := blk_cell I.hd 6
  have a7 := blk_cell I.hd 7
  have a8 := blk_cell I.hd 8
  have a9 := blk_cell I.hd 9
  have a10 := blk_cell I.hd 10
  have a11 := blk_cell I.hd 11
  have a12 := blk_cell I.hd 12
  have a13 := blk_cell I.hd 13
  have a14 := blk_cell I.hd 14
  simp only [List.getElem?_toArray, List.getElem?_cons_succ, List.getElem?_cons_zero] at a0 a1 a2 a3 a4 a5 a6 a7 a8 a9 a10 a11 a12 a13 a14
  have hlx := blk_lt I.hd
  clear I
  have hK9 : K = 9 ∨ K = 10 := by have := HLO.out; have := HV.out.f.le; omega
  have c9 : ckD n X Y P 16 M C 9 = decide (mstC 16 < C) := rfl
  have cc := HV.out.c0
  have HD := trivial
  · skip
    rw [show mstC 16 = 256 from rfl] at c9
    by_cases h9 : (256 : Int) < C
    · have hK : K = 9 := by
        rcases hK9 with h | h
        · exact h
        · have h2 := HV.out.f.no 9 (by omega)
          rw [c9, decide_eq_true h9] at h2
          exact absurd h2 (by decide)
      go_wp2_with fail
      go_quiet (fail)
      have HN := Lib.hid (show DI W hb #[.int .i64 (n : Nat), .int .i64 X, .int .i64 (fa Y), .bool (decide (Y < 0)), .int .i64 16, .int .i64 M, .int .i64 C, .int .i64 0, .int .i64 0, .int .i64 0, .int .i64 0, .int .i64 (fr : Nat), .int .i64 ((fr + n : Nat)), .int .i64 0, .int .i64 0] (w5.drewN nq) from ⟨HI.out.res, HI.out.hd, gb_trans HI.out.gb (gb_drewN _ nq _), HI.out.lt⟩)
      generalize w5.drewN nq = w6 at HN ⊢
      have E := Lib.hid (show RV = badA 2 ((fr : Int) + 32) from HV.out.bad 9 (by decide) hK)
      have KB := Lib.hid (fun u => rbad_calls 2 ((fr : Int) + 32) u)
      have hwp : IntKind.i64.wrap ((fr : Int) + 32) = (fr : Int) + 32 := IntWalk.i64_in _ (by omega)
      unfold badA at KB
      go_wp2_with fail

      

      refine (KB.out _).mono ?_
      rintro e w9 ⟨rfl, g9⟩
      have B9 := old0 g9 HN.out.res (blk_lt HN.out.res) (by simp)
      have r0 := blk_cell B9 0
      have r1 := blk_cell B9 1
      have r2 := blk_cell B9 2
      have r3 := blk_cell B9 3
      have r4 := blk_cell B9 4
      have r5 := blk_cell B9 5
      have r6 := blk_cell B9 6
      have r7 := blk_cell B9 7
      have r8 := blk_cell B9 8
      have r9 := blk_cell B9 9
      have r10 := blk_cell B9 10
      have r11 := blk_cell B9 11
      have r12 := blk_cell B9 12
      have r13 := blk_cell B9 13
      have r14 := blk_cell B9 14
      have rf0 := blk_free B9 0
      have rf1 := blk_free B9 1
      have rf2 := blk_free B9 2
      have rf3 := blk_free B9 3
      have rf4 := blk_free B9 4
      have rf5 := blk_free B9 5
      have rf6 := blk_free B9 6
      have rf7 := blk_free B9 7
      have rf8 := blk_free B9 8
      have rf9 := blk_free B9 9
      have rf10 := blk_free B9 10
      have rf11 := blk_free B9 11
      have rf12 := blk_free B9 12
      have rf13 := blk_free B9 13
      have rf14 := blk_free B9 14
      simp only [List.getElem?_toArray, List.getElem?_cons_succ, List.getElem?_cons_zero] at r0 r1 r2 r3 r4 r5 r6 r7 r8 r9 r10 r11 r12 r13 r14
      have hlr := blk_lt B9
      have G9 := Lib.hid (gb_trans HN.out.gb g9)
      clear g9 B9 KB
      go_wp2
      refine bodyPost_ret (v := .agg (badA 2 ((fr : Int) + 32))) (by simp only [results, Tryd.results11, badA]; go_simp) rfl ⟨by rw [E.out], ?_⟩
      exact gb_own (gb_own (gb_own (gb_own (gb_own (gb_own (gb_own (gb_own (gb_own (gb_own (gb_own (gb_own (gb_own (gb_own (gb_own (G9.out) (Nat.le_refl _) (gb_set _ _ _ _)) (Nat.le_refl _) (gb_set _ _ _ _)) (Nat.le_refl _) (gb_set _ _ _ _)) (Nat.le_refl _) (gb_set _ _ _ _)) (Nat.le_refl _) (gb_set _ _ _ _)) (Nat.le_refl _) (gb_set _ _ _ _)) (Nat.le_refl _) (gb_set _ _ _ _)) (Nat.le_refl _) (gb_set _ _ _ _)) (Nat.le_refl _) (gb_set _ _ _ _)) (Nat.le_refl _) (gb_set _ _ _ _)) (Nat.le_refl _) (gb_set _ _ _ _)) (Nat.le_refl _) (gb_set _ _ _ _)) (Nat.le_refl _) (gb_set _ _ _ _)) (Nat.le_refl _) (gb_set _ _ _ _)) (Nat.le_refl _) (gb_set _ _ _ _)
    · have hK : K = 10 := by
        rcases hK9 with h | h
        · have h2 := HV.out.f.yes (by omega)
          rw [h, c9, decide_eq_false h9] at h2
          exact absurd h2 (by decide)
        · exact h
      have E := Lib.hid (show RV = MV from by rw [HV.out.rv, hK]; rfl)
      go_wp2_with fail
      go_quiet (fail)
      have HN := Lib.hid (show DI W hb #[.int .i64 (n : Nat), .int .i64 X, .int .i64 (fa Y), .bool (decide (Y < 0)), .int .i64 16, .int .i64 M, .int .i64 C, .int .i64 0, .int .i64 0, .int .i64 0, .int .i64 0, .int .i64 (fr : Nat), .int .i64 ((fr + n : Nat)), .int .i64 0, .int .i64 0] (w5.drewN nq) from ⟨HI.out.res, HI.out.hd, gb_trans HI.out.gb (gb_drewN _ nq _), HI.out.lt⟩)
      generalize w5.drewN nq = w6 at HN ⊢
      clear a0 a1 a2 a3 a4 a5 a6 a7 a8 a9 a10 a11 a12 a13 a14 hlx
      have a0 := blk_cell HN.out.hd 0
      have a1 := blk_cell HN.out.hd 1
      have a2 := blk_cell HN.out.hd 2
      have a3 := blk_cell HN.out.hd 3
      have a4 := blk_cell HN.out.hd 4
      have a5 := blk_cell HN.out.hd 5
      have a6 := blk_cell HN.out.hd 6
      have a7 := blk_cell HN.out.hd 7
      have a8 := blk_cell HN.out.hd 8
      have a9 := blk_cell HN.out.hd 9
      have a10 := blk_cell HN.out.hd 10
      have a11 := blk_cell HN.out.hd 11
      have a12 := blk_cell HN.out.hd 12
      have a13 := blk_cell HN.out.hd 13
      have a14 := blk_cell HN.out.hd 14
      simp only [List.getElem?_toArray, List.getElem?_cons_succ, List.getElem?_cons_zero] at a0 a1 a2 a3 a4 a5 a6 a7 a8 a9 a10 a11 a12 a13 a14
      have hlx := blk_lt HN.out.hd
      rw [show clrC 16 C = C from by unfold clrC; split; rename_i h; rw [h]; rfl; rfl] at KM
      go_wp2_with fail
      refine (KM.out _).mono ?_
      rintro e w9 ⟨rfl, g9⟩
      have B9 := old0 g9 HN.out.res (blk_lt HN.out.res) (by simp)
      have G9 := Lib.hid (gb_trans HN.out.gb g9)
      clear g9
      have HB9 := Lib.hid B9
      obtain ⟨z0, z1, z2, z3, z4, z5, z6, z7, z8, z9, z10, z11, z12, z13, z14, hmv⟩ := hMV
      subst hmv
      have r0 := blk_cell B9 0
      have r1 := blk_cell B9 1
      have r2 := blk_cell B9 2
      have r3 := blk_cell B9 3
      have r4 := blk_cell B9 4
      have r5 := blk_cell B9 5
      have r6 := blk_cell B9 6
      have r7 := blk_cell B9 7
      have r8 := blk_cell B9 8
      have r9 := blk_cell B9 9
      have r10 := blk_cell B9 10
      have r11 := blk_cell B9 11
      have r12 := blk_cell B9 12
      have r13 := blk_cell B9 13
      have r14 := blk_cell B9 14
      have rf0 := blk_free B9 0
      have rf1 := blk_free B9 1
      have rf2 := blk_free B9 2
      have rf3 := blk_free B9 3
      have rf4 := blk_free B9 4
      have rf5 := blk_free B9 5
      have rf6 := blk_free B9 6
      have rf7 := blk_free B9 7
      have rf8 := blk_free B9 8
      have rf9 := blk_free B9 9
      have rf10 := blk_free B9 10
      have rf11 := blk_free B9 11
      have rf12 := blk_free B9 12
      have rf13 := blk_free B9 13
      have rf14 := blk_free B9 14
      simp only [List.getElem?_toArray, List.getElem?_cons_succ, List.getElem?_cons_zero] at r0 r1 r2 r3 r4 r5 r6 r7 r8 r9 r10 r11 r12 r13 r14
      have hlr := blk_lt B9
      clear B9
      go_wp2
      refine bodyPost_ret (v := .agg #[.int .i64 z0, .int .i64 z1, .int .i64 z2, .bool z3, .int .i64 z4, .int .i64 z5, .int .i64 z6, .int .i64 z7, .int .i64 z8, .int .i64 z9, .int .i64 z10, .int .i64 z11, .int .i64 z12, .int .i64 z13, .int .i64 z14]) (by simp only [results, Tryd.results11]; go_simp) rfl ⟨by rw [E.out], ?_⟩
      exact gb_own (gb_own (gb_own (gb_own (gb_own (gb_own (gb_own (gb_own (gb_own (gb_own (gb_own (gb_own (gb_own (gb_own (gb_own (G9.out) (Nat.le_refl _) (gb_set _ _ _ _)) (Nat.le_refl _) (gb_set _ _ _ _)) (Nat.le_refl _) (gb_set _ _ _ _)) (Nat.le_refl _) (gb_set _ _ _ _)) (Nat.le_refl _) (gb_set _ _ _ _)) (Nat.le_refl _) (gb_set _ _ _ _)) (Nat.le_refl _) (gb_set _ _ _ _)) (Nat.le_refl _) (gb_set _ _ _ _)) (Nat.le_refl _) (gb_set _ _ _ _)) (Nat.le_refl _) (gb_set _ _ _ _)) (Nat.le_refl _) (gb_set _ _ _ _)) (Nat.le_refl _) (gb_set _ _ _ _)) (Nat.le_refl _) (gb_set _ _ _ _)) (Nat.le_refl _) (gb_set _ _ _ _)) (Nat.le_refl _) (gb_set _ _ _ _)

end Go.Proofs.YtikjfmpdfeaooaaDoor.Dh

/- The document's Read of a long head, from the count's test on: pixels of 24 bits (written by wip/gen/di1.py). -/
namespace Go.Proofs.YtikjfmpdfeaooaaDoor.Dh
open Go.ChangeShapes Go.WideShapes Go.ChangeAt Go.RowKit
open Go.Proofs.YtikjfmpdfeaooaaDoor.Le Go.Proofs.YtikjfmpdfeaooaaDoor.Sr Go.Proofs.YtikjfmpdfeaooaaDoor.Ma
set_option linter.unusedVariables false

set_option maxRecDepth 100000 in
set_option maxHeartbeats 16000000 in
theorem from17_24 (s b : ByteArray) (fr to n K : Nat) (X Y P M C : Int) (RV MV : Array Value) (W : World) (DVh : DV fr n K X Y P 24 M C RV MV) (KM0 : ∀ u, Calls Tryd.prog 35 #[.string s, .agg #[.int .i64 (n : Nat), .int .i64 X, .int .i64 (fa Y), .bool (decide (Y < 0)), .int .i64 24, .int .i64 M, .int .i64 (clrC 24 C), .int .i64 0, .int .i64 0, .int .i64 0, .int .i64 0, .int .i64 (fr : Nat), .int .i64 ((fr + n : Nat)), .int .i64 0, .int .i64 0], .int .i64 (to : Nat)] u fun e w' => e = .returned (.agg MV) ∧ u.grownBy w' none) (KP0 : ∀ u, Calls Tryd.prog 29 #[.string (b.extract 12 (12 + 2))] u fun e w' => e = .returned (.int .i64 P) ∧ u = w') (hb40 : 40 ≤ b.size) (hbm : b.size ≤ 9223372036854775807) (hMV : MVis MV) (lo : 9 ≤ K) (hb : Nat) (w5 : World) (I : DI W hb #[.int .i64 (n : Nat), .int .i64 X, .int .i64 (fa Y), .bool (decide (Y < 0)), .int .i64 24, .int .i64 M, .int .i64 C, .int .i64 0, .int .i64 0, .int .i64 0, .int .i64 0, .int .i64 (fr : Nat), .int .i64 ((fr + n : Nat)), .int .i64 0, .int .i64 0] w5) 
    (u10 u11 u12 u13 u14 u15 u16 u17 u18 u19 u20 u21 u22 u23 u24 u25 u26 u27 u28 u29 u30 u31 u32 u33 u34 u35 u36 u37 u38 u39 u40 u41 u42 u43 u44 u45 u46 u47 u48 u49 u50 u51 u52 u53 u54 u55 u56 u57 u58 u59 u60 u61 u62 u63 u64 u65 u66 u67 u68 u69 u70 u71 u72 u73 u74 u75 u76 u77 u78 u79 u80 u81 u82 u83 u84 u85 u86 u87 u88 u89 u90 u91 u92 u93 u94 u95 u96 u97 u98 u99 u100 u101 u102 u103 u104 u105 u106 u107 u108 u109 u110 u111 u112 u113 u114 u115 u116 u117 u118 u119 u120 u121 u122 u123 u124 u125 u126 u127 u128 u129 u130 u131 u132 u133 u134 u135 u136 u137 u138 u139 u140 u141 u142 u143 u144 u145 u146 u147 u148 u149 u150 u151 u152 u153 u154 u155 u156 u157 u158 u159 u160 u161 u162 u163 u164 u165 u166 u167 u168 u169 u170 u171 u172 u173 u174 u175 u176 u177 u178 u179 u180 u181 u182 u183 u184 u185 u186 u187 u188 u189 u190 u191 u192 u193 u194 u195 u196 u197 u198 u199 u200 u201 u202 u203 u204 u205 u206 u207 u208 u209 u210 u211 u212 u213 u214 u215 u216 u217 u218 u219 u220 u221 u222 u223 u224 u225 u226 u227 u228 u229 u230 u231 : Value) (K1 K2 : Act → World → Prop) (k1 : ∀ a w, Code.wp Tryd.prog (tl7 (hd7 (tl7 (tl7 (tl7 (tl7 (tl7 (tl7 (tl7 (tl7 (tl7 (tl7 (tl7 (tl7 (tl7 (tl7 (tl7 (tl7 (tl7 (bd20)))))))))))))))))))) (Exit.then K2 (bodyPost Tryd.prog Tryd.f11 (fun e w' => e = .returned (.agg RV) ∧ W.grownBy w' none))) a w → K1 a w) (k2 : ∀ a w, Code.wp Tryd.prog (tl7 (tl7 (tl7 (tl7 (tl7 (tl7 (tl7 (tl7 (tl7 (tl7 (tl7 (tl7 (tl7 (tl7 (tl7 (tl7 (tl7 (tl7 (bd20))))))))))))))))))) (bodyPost Tryd.prog Tryd.f11 (fun e w' => e = .returned (.agg RV) ∧ W.grownBy w' none)) a w → K2 a w) :
    Code.wp Tryd.prog (hd7 (hd7 (tl7 (tl7 (tl7 (tl7 (tl7 (tl7 (tl7 (tl7 (tl7 (tl7 (tl7 (tl7 (tl7 (tl7 (tl7 (tl7 (tl7 (bd20)))))))))))))))))))) (Exit.then K1 (Exit.then K2 (bodyPost Tryd.prog Tryd.f11 (fun e w' => e = .returned (.agg RV) ∧ W.grownBy w' none)))) { tmps := #[.string s, .int .i64 (fr : Nat), .int .i64 (to : Nat), undef, undef, undef, .pointer (some ⟨W.heap.size, 0, none⟩), .int .i64 (n : Nat), .string b, .pointer (some ⟨hb, 0, none⟩), u10, u11, u12, u13, u14, u15, u16, u17, u18, u19, u20, u21, u22, u23, u24, u25, u26, u27, u28, u29, u30, u31, u32, u33, u34, u35, u36, u37, u38, u39, u40, u41, u42, u43, u44, u45, u46, u47, u48, u49, u50, u51, u52, u53, u54, u55, u56, u57, u58, u59, u60, u61, u62, u63, u64, u65, u66, u67, u68, u69, u70, u71, u72, u73, u74, u75, u76, u77, u78, u79, u80, u81, u82, u83, u84, u85, u86, u87, u88, u89, u90, u91, u92, u93, u94, u95, u96, u97, u98, u99, u100, u101, u102, u103, u104, u105, u106, u107, u108, u109, u110, u111, u112, u113, u114, u115, u116, u117, u118, u119, u120, u121, u122, u123, u124, u125, u126, u127, u128, u129, u130, u131, u132, u133, u134, u135, u136, u137, u138, u139, u140, u141, u142, u143, u144, u145, u146, u147, u148, u149, u150, u151, u152, u153, u154, u155, u156, u157, u158, u159, u160, u161, u162, u163, u164, u165, u166, u167, u168, u169, u170, u171, u172, u173, u174, u175, u176, u177, u178, u179, u180, u181, u182, u183, u184, u185, u186, u187, u188, u189, u190, u191, u192, u193, u194, u195, u196, u197, u198, u199, u200, u201, u202, u203, u204, u205, u206, u207, u208, u209, u210, u211, u212, u213, u214, u215, u216, u217, u218, u219, u220, u221, u222, u223, u224, u225, u226, u227, u228, u229, u230, u231], defers := [] } w5 := by
  have HV := Lib.hid DVh
  have KM := Lib.hid KM0
  have KP := Lib.hid KP0
  have HB40 := Lib.hid (And.intro hb40 hbm)
  have HLO := Lib.hid lo
  have ne1 : W.heap.size ≠ hb := by have := I.lt; omega
  have ne2 : hb ≠ W.heap.size := by have := I.lt; omega
  have HI := Lib.hid I
  have hfr := DVh.fle
  have hnl := DVh.nle
  clear DVh KM0 KP0 lo hb40 hbm
  conv => arg 2; whnf
  conv => arg 4; dsimp only
  conv at k1 => enter [a, w, 1, 2]; whnf
  conv at k2 => enter [a, w, 1, 2]; whnf
  have a0 := blk_cell I.hd 0
  have a1 := blk_cell I.hd 1
  have a2 := blk_cell I.hd 2
  have a3 := blk_cell I.hd 3
  have a4 := blk_cell I.hd 4
  have a5 := blk_cell I.hd 5
  have a6 := blk_cell I.hd 6
  have a7 := blk_cell I.hd 7
  have a8 := blk_cell I.hd 8
  have a9 := blk_cell I.hd 9
  have a10 := blk_cell I.hd 10
  have a11 := blk_cell I.hd 11
  have a12 := blk_cell I.hd 12
  have a13 := blk_cell I.hd 13
  have a14 := blk_cell I.hd 14
  simp only [List.getElem?_toArray, List.getElem?_cons_succ, List.getElem?_cons_zero] at a0 a1 a2 a3 a4 a5 a6 a7 a8 a9 a10 a11 a12 a13 a14
  have hlx := blk_lt I.hd
  clear I
  have hK9 : K = 9 ∨ K = 10 := by have := HLO.out; have := HV.out.f.le; omega
  have c9 : ckD n X Y P 24 M C 9 = decide (mstC 24 < C) := rfl
  have cc := HV.out.c0
  have HD := trivial
  · skip
    rw [show mstC 24 = 256 from rfl] at c9
    by_cases h9 : (256 : Int) < C
    · have hK : K = 9 := by
        rcases hK9 with h | h
        · exact h
        · have h2 := HV.out.f.no 9 (by omega)
          rw [c9, decide_eq_true h9] at h2
          exact absurd h2 (by decide)
      go_wp2_with fail
      go_quiet (fail)
      have HN := Lib.hid (show DI W hb #[.int .i64 (n : Nat), .int .i64 X, .int .i64 (fa Y), .bool (decide (Y < 0)), .int .i64 24, .int .i64 M, .int .i64 C, .int .i64 0, .int .i64 0, .int .i64 0, .int .i64 0, .int .i64 (fr : Nat), .int .i64 ((fr + n : Nat)), .int .i64 0, .int .i64 0] (w5.drewN nq) from ⟨HI.out.res, HI.out.hd, gb_trans HI.out.gb (gb_drewN _ nq _), HI.out.lt⟩)
      generalize w5.drewN nq = w6 at HN ⊢
      have E := Lib.hid (show RV = badA 2 ((fr : Int) + 32) from HV.out.bad 9 (by decide) hK)
      have KB := Lib.hid (fun u => rbad_calls 2 ((fr : Int) + 32) u)
      have hwp : IntKind.i64.wrap ((fr : Int) + 32) = (fr : Int) + 32 := IntWalk.i64_in _ (by omega)
      unfold badA at KB
      go_wp2_with fail

      

      refine (KB.out _).mono ?_
      rintro e w9 ⟨rfl, g9⟩
      have B9 := old0 g9 HN.out.res (blk_lt HN.out.res) (by simp)
      have r0 := blk_cell B9 0
      have r1 := blk_cell B9 1
      have r2 := blk_cell B9 2
      have r3 := blk_cell B9 3
      have r4 := blk_cell B9 4
      have r5 := blk_cell B9 5
      have r6 := blk_cell B9 6
      have r7 := blk_cell B9 7
      have r8 := blk_cell B9 8
      have r9 := blk_cell B9 9
      have r10 := blk_cell B9 10
      have r11 := blk_cell B9 11
      have r12 := blk_cell B9 12
      have r13 := blk_cell B9 13
      have r14 := blk_cell B9 14
      have rf0 := blk_free B9 0
      have rf1 := blk_free B9 1
      have rf2 := blk_free B9 2
      have rf3 := blk_free B9 3
      have rf4 := blk_free B9 4
      have rf5 := blk_free B9 5
      have rf6 := blk_free B9 6
      have rf7 := blk_free B9 7
      have rf8 := blk_free B9 8
      have rf9 := blk_free B9 9
      have rf10 := blk_free B9 10
      have rf11 := blk_free B9 11
      have rf12 := blk_free B9 12
      have rf13 := blk_free B9 13
      have rf14 := blk_free B9 14
      simp only [List.getElem?_toArray, List.getElem?_cons_succ, List.getElem?_cons_zero] at r0 r1 r2 r3 r4 r5 r6 r7 r8 r9 r10 r11 r12 r13 r14
      have hlr := blk_lt B9
      have G9 := Lib.hid (gb_trans HN.out.gb g9)
      clear g9 B9 KB
      go_wp2
      refine bodyPost_ret (v := .agg (badA 2 ((fr : Int) + 32))) (by simp only [results, Tryd.results11, badA]; go_simp) rfl ⟨by rw [E.out], ?_⟩
      exact gb_own (gb_own (gb_own (gb_own (gb_own (gb_own (gb_own (gb_own (gb_own (gb_own (gb_own (gb_own (gb_own (gb_own (gb_own (G9.out) (Nat.le_refl _) (gb_set _ _ _ _)) (Nat.le_refl _) (gb_set _ _ _ _)) (Nat.le_refl _) (gb_set _ _ _ _)) (Nat.le_refl _) (gb_set _ _ _ _)) (Nat.le_refl _) (gb_set _ _ _ _)) (Nat.le_refl _) (gb_set _ _ _ _)) (Nat.le_refl _) (gb_set _ _ _ _)) (Nat.le_refl _) (gb_set _ _ _ _)) (Nat.le_refl _) (gb_set _ _ _ _)) (Nat.le_refl _) (gb_set _ _ _ _)) (Nat.le_refl _) (gb_set _ _ _ _)) (Nat.le_refl _) (gb_set _ _ _ _)) (Nat.le_refl _) (gb_set _ _ _ _)) (Nat.le_refl _) (gb_set _ _ _ _)) (Nat.le_refl _) (gb_set _ _ _ _)
    · have hK : K = 10 := by
        rcases hK9 with h | h
        · have h2 := HV.out.f.yes (by omega)
          rw [h, c9, decide_eq_false h9] at h2
          exact absurd h2 (by decide)
        · exact h
      have E := Lib.hid (show RV = MV from by rw [HV.out.rv, hK]; rfl)
      go_wp2_with fail
      go_quiet (fail)
      have HN := Lib.hid (show DI W hb #[.int .i64 (n : Nat), .int .i64 X, .int .i64 (fa Y), .bool (decide (Y < 0)), .int .i64 24, .int .i64 M, .int .i64 C, .int .i64 0, .int .i64 0, .int .i64 0, .int .i64 0, .int .i64 (fr : Nat), .int .i64 ((fr + n : Nat)), .int .i64 0, .int .i64 0] (w5.drewN nq) from ⟨HI.out.res, HI.out.hd, gb_trans HI.out.gb (gb_drewN _ nq _), HI.out.lt⟩)
      generalize w5.drewN nq = w6 at HN ⊢
      clear a0 a1 a2 a3 a4 a5 a6 a7 a8 a9 a10 a11 a12 a13 a14 hlx
      have a0 := blk_cell HN.out.hd 0
      have a1 := blk_cell HN.out.hd 1
      have a2 := blk_cell HN.out.hd 2
      have a3 := blk_cell HN.out.hd 3
      have a4 := blk_cell HN.out.hd 4
      have a5 := blk_cell HN.out.hd 5
      have a6 := blk_cell HN.out.hd 6
      have a7 := blk_cell HN.out.hd 7
      have a8 := blk_cell HN.out.hd 8
      have a9 := blk_cell HN.out.hd 9
      have a10 := blk_cell HN.out.hd 10
      have a11 := blk_cell HN.out.hd 11
      have a12 := blk_cell HN.out.hd 12
      have a13 := blk_cell HN.out.hd 13
      have a14 := blk_cell HN.out.hd 14
      simp only [List.getElem?_toArray, List.getElem?_cons_succ, List.getElem?_cons_zero] at a0 a1 a2 a3 a4 a5 a6 a7 a8 a9 a10 a11 a12 a13 a14
      have hlx := blk_lt HN.out.hd
      rw [show clrC 24 C = C from by unfold clrC; split; rename_i h; rw [h]; rfl; rfl] at KM
      go_wp2_with fail
      refine (KM.out _).mono ?_
      rintro e w9 ⟨rfl, g9⟩
      have B9 := old0 g9 HN.out.res (blk_lt HN.out.res) (by simp)
      have G9 := Lib.hid (gb_trans HN.out.gb g9)
      clear g9
      have HB9 := Lib.hid B9
      obtain ⟨z0, z1, z2, z3, z4, z5, z6, z7, z8, z9, z10, z11, z12, z13, z14, hmv⟩ := hMV
      subst hmv
      have r0 := blk_cell B9 0
      have r1 := blk_cell B9 1
      have r2 := blk_cell B9 2
      have r3 := blk_cell B9 3
      have r4 := blk_cell B9 4
      have r5 := blk_cell B9 5
      have r6 := blk_cell B9 6
      have r7 := blk_cell B9 7
      have r8 := blk_cell B9 8
      have r9 := blk_cell B9 9
      have r10 := blk_cell B9 10
      have r11 := blk_cell B9 11
      have r12 := blk_cell B9 12
      have r13 := blk_cell B9 13
      have r14 := blk_cell B9 14
      have rf0 := blk_free B9 0
      have rf1 := blk_free B9 1
      have rf2 := blk_free B9 2
      have rf3 := blk_free B9 3
      have rf4 := blk_free B9 4
      have rf5 := blk_free B9 5
      have rf6 := blk_free B9 6
      have rf7 := blk_free B9 7
      have rf8 := blk_free B9 8
      have rf9 := blk_free B9 9
      have rf10 := blk_free B9 10
      have rf11 := blk_free B9 11
      have rf12 := blk_free B9 12
      have rf13 := blk_free B9 13
      have rf14 := blk_free B9 14
      simp only [List.getElem?_toArray, List.getElem?_cons_succ, List.getElem?_cons_zero] at r0 r1 r2 r3 r4 r5 r6 r7 r8 r9 r10 r11 r12 r13 r14
      have hlr := blk_lt B9
      clear B9
      go_wp2
      refine bodyPost_ret (v := .agg #[.int .i64 z0, .int .i64 z1, .int .i64 z2, .bool z3, .int .i64 z4, .int .i64 z5, .int .i64 z6, .int .i64 z7, .int .i64 z8, .int .i64 z9, .int .i64 z10, .int .i64 z11, .int .i64 z12, .int .i64 z13, .int .i64 z14]) (by simp only [results, Tryd.results11]; go_simp) rfl ⟨by rw [E.out], ?_⟩
      exact gb_own (gb_own (gb_own (gb_own (gb_own (gb_own (gb_own (gb_own (gb_own (gb_own (gb_own (gb_own (gb_own (gb_own (gb_own (G9.out) (Nat.le_refl _) (gb_set _ _ _ _)) (Nat.le_refl _) (gb_set _ _ _ _)) (Nat.le_refl _) (gb_set _ _ _ _)) (Nat.le_refl _) (gb_set _ _ _ _)) (Nat.le_refl _) (gb_set _ _ _ _)) (Nat.le_refl _) (gb_set _ _ _ _)) (Nat.le_refl _) (gb_set _ _ _ _)) (Nat.le_refl _) (gb_set _ _ _ _)) (Nat.le_refl _) (gb_set _ _ _ _)) (Nat.le_refl _) (gb_set _ _ _ _)) (Nat.le_refl _) (gb_set _ _ _ _)) (Nat.le_refl _) (gb_set _ _ _ _)) (Nat.le_refl _) (gb_set _ _ _ _)) (Nat.le_refl _) (gb_set _ _ _ _)) (Nat.le_refl _) (gb_set _ _ _ _)

end Go.Proofs.YtikjfmpdfeaooaaDoor.Dh
