/- Texts of one kind, one behind the other: DiF12, DiF11, DiF10, DiS40, DiS52, DiS56. -/
import Derived.Deep.RegionHeld3
import Derived.Test.YtikjfmpdfeaooaaDoorG06
import Derived.Test.YtikjfmpdfeaooaaDoorG27
/- The document's Read of a long head: from test 12 of its body on (written by wip/gen/di2.py). -/
namespace Go.Proofs.YtikjfmpdfeaooaaDoor.Dh
open Go.ChangeShapes Go.WideShapes Go.ChangeAt Go.RowKit
open Go.Proofs.YtikjfmpdfeaooaaDoor.Le Go.Proofs.YtikjfmpdfeaooaaDoor.Sr Go.Proofs.YtikjfmpdfeaooaaDoor.Ma
set_option linter.unusedVariables false

set_option maxRecDepth 100000 in
set_option maxHeartbeats 16000000 in
theorem from12 (s b : ByteArray) (fr to n K : Nat) (X Y P D M C : Int) (RV MV : Array Value) (W : World) (DVh : DV fr n K X Y P D M C RV MV) (KM0 : ∀ u, Calls Tryd.prog 35 #[.string s, .agg #[.int .i64 (n : Nat), .int .i64 X, .int .i64 (fa Y), .bool (decide (Y < 0)), .int .i64 D, .int .i64 M, .int .i64 (clrC D C), .int .i64 0, .int .i64 0, .int .i64 0, .int .i64 0, .int .i64 (fr : Nat), .int .i64 ((fr + n : Nat)), .int .i64 0, .int .i64 0], .int .i64 (to : Nat)] u fun e w' => e = .returned (.agg MV) ∧ u.grownBy w' none) (KP0 : ∀ u, Calls Tryd.prog 29 #[.string (b.extract 12 (12 + 2))] u fun e w' => e = .returned (.int .i64 P) ∧ u = w') (hb40 : 40 ≤ b.size) (hbm : b.size ≤ 9223372036854775807) (hMV : MVis MV) (lo : 4 ≤ K) (hb : Nat) (w5 : World) (I : DI W hb #[.int .i64 (n : Nat), .int .i64 X, .int .i64 (fa Y), .bool (decide (Y < 0)), .int .i64 D, .int .i64 M, .int .i64 C, .int .i64 0, .int .i64 0, .int .i64 0, .int .i64 0, .int .i64 (fr : Nat), .int .i64 ((fr + n : Nat)), .int .i64 0, .int .i64 0] w5) 
    (u10 u11 u12 u13 u14 u15 u16 u17 u18 u19 u20 u21 u22 u23 u24 u25 u26 u27 u28 u29 u30 u31 u32 u33 u34 u35 u36 u37 u38 u39 u40 u41 u42 u43 u44 u45 u46 u47 u48 u49 u50 u51 u52 u53 u54 u55 u56 u57 u58 u59 u60 u61 u62 u63 u64 u65 u66 u67 u68 u69 u70 u71 u72 u73 u74 u75 u76 u77 u78 u79 u80 u81 u82 u83 u84 u85 u86 u87 u88 u89 u90 u91 u92 u93 u94 u95 u96 u97 u98 u99 u100 u101 u102 u103 u104 u105 u106 u107 u108 u109 u110 u111 u112 u113 u114 u115 u116 u117 u118 u119 u120 u121 u122 u123 u124 u125 u126 u127 u128 u129 u130 u131 u132 u133 u134 u135 u136 u137 u138 u139 u140 u141 u142 u143 u144 u145 u146 u147 u148 u149 u150 u151 u152 u153 u154 u155 u156 u157 u158 u159 u160 u161 u162 u163 u164 u165 u166 u167 u168 u169 u170 u171 u172 u173 u174 u175 u176 u177 u178 u179 u180 u181 u182 u183 u184 u185 u186 u187 u188 u189 u190 u191 u192 u193 u194 u195 u196 u197 u198 u199 u200 u201 u202 u203 u204 u205 u206 u207 u208 u209 u210 u211 u212 u213 u214 u215 u216 u217 u218 u219 u220 u221 u222 u223 u224 u225 u226 u227 u228 u229 u230 u231 : Value) (K1 K2 : Act → World → Prop) (k1 : ∀ a w, Code.wp Tryd.prog (tl7 (hd7 (tl7 (tl7 (tl7 (tl7 (tl7 (tl7 (tl7 (tl7 (tl7 (tl7 (tl7 (tl7 (bd20))))))))))))))) (Exit.then K2 (bodyPost Tryd.prog Tryd.f11 (fun e w' => e = .returned (.agg RV) ∧ W.grownBy w' none))) a w → K1 a w) (k2 : ∀ a w, Code.wp Tryd.prog (tl7 (tl7 (tl7 (tl7 (tl7 (tl7 (tl7 (tl7 (tl7 (tl7 (tl7 (tl7 (tl7 (bd20)))))))))))))) (bodyPost Tryd.prog Tryd.f11 (fun e w' => e = .returned (.agg RV) ∧ W.grownBy w' none)) a w → K2 a w) :
    Code.wp Tryd.prog (hd7 (hd7 (tl7 (tl7 (tl7 (tl7 (tl7 (tl7 (tl7 (tl7 (tl7 (tl7 (tl7 (tl7 (bd20))))))))))))))) (Exit.then K1 (Exit.then K2 (bodyPost Tryd.prog Tryd.f11 (fun e w' => e = .returned (.agg RV) ∧ W.grownBy w' none)))) { tmps := #[.string s, .int .i64 (fr : Nat), .int .i64 (to : Nat), undef, undef, undef, .pointer (some ⟨W.heap.size, 0, none⟩), .int .i64 (n : Nat), .string b, .pointer (some ⟨hb, 0, none⟩), u10, u11, u12, u13, u14, u15, u16, u17, u18, u19, u20, u21, u22, u23, u24, u25, u26, u27, u28, u29, u30, u31, u32, u33, u34, u35, u36, u37, u38, u39, u40, u41, u42, u43, u44, u45, u46, u47, u48, u49, u50, u51, u52, u53, u54, u55, u56, u57, u58, u59, u60, u61, u62, u63, u64, u65, u66, u67, u68, u69, u70, u71, u72, u73, u74, u75, u76, u77, u78, u79, u80, u81, u82, u83, u84, u85, u86, u87, u88, u89, u90, u91, u92, u93, u94, u95, u96, u97, u98, u99, u100, u101, u102, u103, u104, u105, u106, u107, u108, u109, u110, u111, u112, u113, u114, u115, u116, u117, u118, u119, u120, u121, u122, u123, u124, u125, u126, u127, u128, u129, u130, u131, u132, u133, u134, u135, u136, u137, u138, u139, u140, u141, u142, u143, u144, u145, u146, u147, u148, u149, u150, u151, u152, u153, u154, u155, u156, u157, u158, u159, u160, u161, u162, u163, u164, u165, u166, u167, u168, u169, u170, u171, u172, u173, u174, u175, u176, u177, u178, u179, u180, u181, u182, u183, u184, u185, u186, u187, u188, u189, u190, u191, u192, u193, u194, u195, u196, u197, u198, u199, u200, u201, u202, u203, u204, u205, u206, u207, u208, u209, u210, u211, u212, u213, u214, u215, u216, u217, u218, u219, u220, u221, u222, u223, u224, u225, u226, u227, u228, u229, u230, u231], defers := [] } w5 := by
  have HV := Lib.hid DVh
  have KM := Lib.hid KM0
  have KP := Lib.hid KP0
  have HB40 := Lib.hid (And.intro hb40 hbm)
  have HLO := Lib.hid lo
  have HMV := Lib.hid hMV
  clear hMV
  have ne1 : W.heap.size ≠ hb := by have := I.lt; omega
  have ne2 : hb ≠ W.heap.size := by have := I.lt; omega
  have HI := Lib.hid I
  have hfr := DVh.fle
  have hnl := DVh.nle
  clear DVh KM0 KP0 lo hb40 hbm
  conv => arg 2; whnf
  conv => arg 4; dsimp only
  conv at k1 => enter [a, w, 1, 2]; whnf
  conv at k2 => enter [a, w, 1, 2]; whnf
  have a0 := blk_cell I.hd 0
  have a1 := blk_cell I.hd 1
  have a2 := blk_cell I.hd 2
  have a3 := blk_cell I.hd 3
  have a4 := blk_cell I.hd 4
  have a5 := blk_cell I.hd 5
  have a6 := blk_cell I.hd 6
  have a7 := blk_cell I.hd 7
  have a8 := blk_cell I.hd 8
  have a9 := blk_cell I.hd 9
  have a10 := blk_cell I.hd 10
  have a11 := blk_cell I.hd 11
  have a12 := blk_cell I.hd 12
  have a13 := blk_cell I.hd 13
  have a14 := blk_cell I.hd 14
  simp only [List.getElem?_toArray, List.getElem?_cons_succ, List.getElem?_cons_zero] at a0 a1 a2 a3 a4 a5 a6 a7 a8 a9 a10 a11 a12 a13 a14
  have hlx := blk_lt I.hd
  clear I
  have sP : ∀ w, (Instr.slice 9 (.string b) (some (.int .i64 12)) (some (.int .i64 14)) none).run Tryd.prog w = .ok (.string (b.extract 12 (12 + 2))) w := fun w => cut_at b 12 2 (by have := HB40.out.1; omega) w
  by_cases hKk : K = 4
  · have hy := HV.out.f.yes (by omega)
    rw [hKk] at hy
    have q1 : (P != 1) = true := hy
    clear hy
    go_wp2_with fail
    refine (KP.out _).mono ?_
    rintro e w' ⟨rfl, rfl⟩
    have E := Lib.hid (show RV = badA 2 ((fr : Int) + 12) from by rw [HV.out.bad 4 (by decide) hKk, show plD n 4 = 12 from if_neg (by have := HV.out.n12; omega)]; rfl)
    have KB := Lib.hid (fun u => rbad_calls 2 ((fr : Int) + 12) u)
    have hwp : IntKind.i64.wrap ((fr : Int) + 12) = (fr : Int) + 12 := IntWalk.i64_in _ (by omega)
    unfold badA at KB
    go_wp2_with fail

    

    refine (KB.out _).mono ?_
    rintro e w9 ⟨rfl, g9⟩
    have B9 := old0 g9 HI.out.res (blk_lt HI.out.res) (by simp)
    have r0 := blk_cell B9 0
    have r1 := blk_cell B9 1
    have r2 := blk_cell B9 2
    have r3 := blk_cell B9 3
    have r4 := blk_cell B9 4
    have r5 := blk_cell B9 5
    have r6 := blk_cell B9 6
    have r7 := blk_cell B9 7
    have r8 := blk_cell B9 8
    have r9 := blk_cell B9 9
    have r10 := blk_cell B9 10
    have r11 := blk_cell B9 11
    have r12 := blk_cell B9 12
    have r13 := blk_cell B9 13
    have r14 := blk_cell B9 14
    have rf0 := blk_free B9 0
    have rf1 := blk_free B9 1
    have rf2 := blk_free B9 2
    have rf3 := blk_free B9 3
    have rf4 := blk_free B9 4
    have rf5 := blk_free B9 5
    have rf6 := blk_free B9 6
    have rf7 := blk_free B9 7
    have rf8 := blk_free B9 8
    have rf9 := blk_free B9 9
    have rf10 := blk_free B9 10
    have rf11 := blk_free B9 11
    have rf12 := blk_free B9 12
    have rf13 := blk_free B9 13
    have rf14 := blk_free B9 14
    simp only [List.getElem?_toArray, List.getElem?_cons_succ, List.getElem?_cons_zero] at r0 r1 r2 r3 r4 r5 r6 r7 r8 r9 r10 r11 r12 r13 r14
    have hlr := blk_lt B9
    have G9 := Lib.hid (gb_trans HI.out.gb g9)
    clear g9 B9 KB
    go_wp2
    refine bodyPost_ret (v := .agg (badA 2 ((fr : Int) + 12))) (by simp only [results, Tryd.results11, badA]; go_simp) rfl ⟨by rw [E.out], ?_⟩
    exact gb_own (gb_own (gb_own (gb_own (gb_own (gb_own (gb_own (gb_own (gb_own (gb_own (gb_own (gb_own (gb_own (gb_own (gb_own (G9.out) (Nat.le_refl _) (gb_set _ _ _ _)) (Nat.le_refl _) (gb_set _ _ _ _)) (Nat.le_refl _) (gb_set _ _ _ _)) (Nat.le_refl _) (gb_set _ _ _ _)) (Nat.le_refl _) (gb_set _ _ _ _)) (Nat.le_refl _) (gb_set _ _ _ _)) (Nat.le_refl _) (gb_set _ _ _ _)) (Nat.le_refl _) (gb_set _ _ _ _)) (Nat.le_refl _) (gb_set _ _ _ _)) (Nat.le_refl _) (gb_set _ _ _ _)) (Nat.le_refl _) (gb_set _ _ _ _)) (Nat.le_refl _) (gb_set _ _ _ _)) (Nat.le_refl _) (gb_set _ _ _ _)) (Nat.le_refl _) (gb_set _ _ _ _)) (Nat.le_refl _) (gb_set _ _ _ _)
  · have hy := HV.out.f.no 4 (by have h1 := HLO.out; omega)
    have q1 : (P != 1) = false := hy
    have hK5 : 5 ≤ K := by have h1 := HLO.out; omega
    have hk5 := Lib.hid hK5
    clear hy hKk hK5
    go_wp2_with fail
    refine (KP.out _).mono ?_
    rintro e w' ⟨rfl, rfl⟩
    go_upto_region 23 with fail
    exact from13 s b fr to n K X Y P D M C RV MV W HV.out KM.out KP.out HB40.out.1 HB40.out.2 HMV.out hk5.out hb _ HI.out _ _ _ _ _ _ _ _ _ _ _ _ _ _ _ _ _ _ _ _ _ _ _ _ _ _ _ _ _ _ _ _ _ _ _ _ _ _ _ _ _ _ _ _ _ _ _ _ _ _ _ _ _ _ _ _ _ _ _ _ _ _ _ _ _ _ _ _ _ _ _ _ _ _ _ _ _ _ _ _ _ _ _ _ _ _ _ _ _ _ _ _ _ _ _ _ _ _ _ _ _ _ _ _ _ _ _ _ _ _ _ _ _ _ _ _ _ _ _ _ _ _ _ _ _ _ _ _ _ _ _ _ _ _ _ _ _ _ _ _ _ _ _ _ _ _ _ _ _ _ _ _ _ _ _ _ _ _ _ _ _ _ _ _ _ _ _ _ _ _ _ _ _ _ _ _ _ _ _ _ _ _ _ _ _ _ _ _ _ _ _ _ _ _ _ _ _ _ _ _ _ _ _ _ _ _ _ _ _ _ _ _ _ _ _ _ _ _ _ _ _ _ _ _ (by assumption) (by assumption)

end Go.Proofs.YtikjfmpdfeaooaaDoor.Dh

/- The document's Read of a long head: from test 11 of its body on (written by wip/gen/di2.py). -/
namespace Go.Proofs.YtikjfmpdfeaooaaDoor.Dh
open Go.ChangeShapes Go.WideShapes Go.ChangeAt Go.RowKit
open Go.Proofs.YtikjfmpdfeaooaaDoor.Le Go.Proofs.YtikjfmpdfeaooaaDoor.Sr Go.Proofs.YtikjfmpdfeaooaaDoor.Ma
set_option linter.unusedVariables false

set_option maxRecDepth 100000 in
set_option maxHeartbeats 16000000 in
theorem from11 (s b : ByteArray) (fr to n K : Nat) (X Y P D M C : Int) (RV MV : Array Value) (W : World) (DVh : DV fr n K X Y P D M C RV MV) (KM0 : ∀ u, Calls Tryd.prog 35 #[.string s, .agg #[.int .i64 (n : Nat), .int .i64 X, .int .i64 (fa Y), .bool (decide (Y < 0)), .int .i64 D, .int .i64 M, .int .i64 (clrC D C), .int .i64 0, .int .i64 0, .int .i64 0, .int .i64 0, .int .i64 (fr : Nat), .int .i64 ((fr + n : Nat)), .int .i64 0, .int .i64 0], .int .i64 (to : Nat)] u fun e w' => e = .returned (.agg MV) ∧ u.grownBy w' none) (KP0 : ∀ u, Calls Tryd.prog 29 #[.string (b.extract 12 (12 + 2))] u fun e w' => e = .returned (.int .i64 P) ∧ u = w') (hb40 : 40 ≤ b.size) (hbm : b.size ≤ 9223372036854775807) (hMV : MVis MV) (lo : 2 ≤ K) (hb : Nat) (w5 : World) (I : DI W hb #[.int .i64 (n : Nat), .int .i64 X, .int .i64 (fa Y), .bool (decide (Y < 0)), .int .i64 D, .int .i64 M, .int .i64 C, .int .i64 0, .int .i64 0, .int .i64 0, .int .i64 0, .int .i64 (fr : Nat), .int .i64 ((fr + n : Nat)), .int .i64 0, .int .i64 0] w5) 
    (u10 u11 u12 u13 u14 u15 u16 u17 u18 u19 u20 u21 u22 u23 u24 u25 u26 u27 u28 u29 u30 u31 u32 u33 u34 u35 u36 u37 u38 u39 u40 u41 u42 u43 u44 u45 u46 u47 u48 u49 u50 u51 u52 u53 u54 u55 u56 u57 u58 u59 u60 u61 u62 u63 u64 u65 u66 u67 u68 u69 u70 u71 u72 u73 u74 u75 u76 u77 u78 u79 u80 u81 u82 u83 u84 u85 u86 u87 u88 u89 u90 u91 u92 u93 u94 u95 u96 u97 u98 u99 u100 u101 u102 u103 u104 u105 u106 u107 u108 u109 u110 u111 u112 u113 u114 u115 u116 u117 u118 u119 u120 u121 u122 u123 u124 u125 u126 u127 u128 u129 u130 u131 u132 u133 u134 u135 u136 u137 u138 u139 u140 u141 u142 u143 u144 u145 u146 u147 u148 u149 u150 u151 u152 u153 u154 u155 u156 u157 u158 u159 u160 u161 u162 u163 u164 u165 u166 u167 u168 u169 u170 u171 u172 u173 u174 u175 u176 u177 u178 u179 u180 u181 u182 u183 u184 u185 u186 u187 u188 u189 u190 u191 u192 u193 u194 u195 u196 u197 u198 u199 u200 u201 u202 u203 u204 u205 u206 u207 u208 u209 u210 u211 u212 u213 u214 u215 u216 u217 u218 u219 u220 u221 u222 u223 u224 u225 u226 u227 u228 u229 u230 u231 : Value) (K1 K2 : Act → World → Prop) (k1 : ∀ a w, Code.wp Tryd.prog (tl7 (hd7 (tl7 (tl7 (tl7 (tl7 (tl7 (tl7 (tl7 (tl7 (tl7 (tl7 (tl7 (bd20)))))))))))))) (Exit.then K2 (bodyPost Tryd.prog Tryd.f11 (fun e w' => e = .returned (.agg RV) ∧ W.grownBy w' none))) a w → K1 a w) (k2 : ∀ a w, Code.wp Tryd.prog (tl7 (tl7 (tl7 (tl7 (tl7 (tl7 (tl7 (tl7 (tl7 (tl7 (tl7 (tl7 (bd20))))))))))))) (bodyPost Tryd.prog Tryd.f11 (fun e w' => e = .returned (.agg RV) ∧ W.grownBy w' none)) a w → K2 a w) :
    Code.wp Tryd.prog (hd7 (hd7 (tl7 (tl7 (tl7 (tl7 (tl7 (tl7 (tl7 (tl7 (tl7 (tl7 (tl7 (bd20)))))))))))))) (Exit.then K1 (Exit.then K2 (bodyPost Tryd.prog Tryd.f11 (fun e w' => e = .returned (.agg RV) ∧ W.grownBy w' none)))) { tmps := #[.string s, .int .i64 (fr : Nat), .int .i64 (to : Nat), undef, undef, undef, .pointer (some ⟨W.heap.size, 0, none⟩), .int .i64 (n : Nat), .string b, .pointer (some ⟨hb, 0, none⟩), u10, u11, u12, u13, u14, u15, u16, u17, u18, u19, u20, u21, u22, u23, u24, u25, u26, u27, u28, u29, u30, u31, u32, u33, u34, u35, u36, u37, u38, u39, u40, u41, u42, u43, u44, u45, u46, u47, u48, u49, u50, u51, u52, u53, u54, u55, u56, u57, u58, u59, u60, u61, u62, u63, u64, u65, u66, u67, u68, u69, u70, u71, u72, u73, u74, u75, u76, u77, u78, u79, u80, u81, u82, u83, u84, u85, u86, u87, u88, u89, u90, u91, u92, u93, u94, u95, u96, u97, u98, u99, u100, u101, u102, u103, u104, u105, u106, u107, u108, u109, u110, u111, u112, u113, u114, u115, u116, u117, u118, u119, u120, u121, u122, u123, u124, u125, u126, u127, u128, u129, u130, u131, u132, u133, u134, u135, u136, u137, u138, u139, u140, u141, u142, u143, u144, u145, u146, u147, u148, u149, u150, u151, u152, u153, u154, u155, u156, u157, u158, u159, u160, u161, u162, u163, u164, u165, u166, u167, u168, u169, u170, u171, u172, u173, u174, u175, u176, u177, u178, u179, u180, u181, u182, u183, u184, u185, u186, u187, u188, u189, u190, u191, u192, u193, u194, u195, u196, u197, u198, u199, u200, u201, u202, u203, u204, u205, u206, u207, u208, u209, u210, u211, u212, u213, u214, u215, u216, u217, u218, u219, u220, u221, u222, u223, u224, u225, u226, u227, u228, u229, u230, u231], defers := [] } w5 := by
  have HV := Lib.hid DVh
  have KM := Lib.hid KM0
  have KP := Lib.hid KP0
  have HB40 := Lib.hid (And.intro hb40 hbm)
  have HLO := Lib.hid lo
  have HMV := Lib.hid hMV
  clear hMV
  have ne1 : W.heap.size ≠ hb := by have := I.lt; omega
  have ne2 : hb ≠ W.heap.size := by have := I.lt; omega
  have HI := Lib.hid I
  have hfr := DVh.fle
  have hnl := DVh.nle
  clear DVh KM0 KP0 lo hb40 hbm
  conv => arg 2; whnf
  conv => arg 4; dsimp only
  conv at k1 => enter [a, w, 1, 2]; whnf
  conv at k2 => enter [a, w, 1, 2]; whnf
  have a0 := blk_cell I.hd 0
  have a1 := blk_cell I.hd 1
  have a2 := blk_cell I.hd 2
  have a3 := blk_cell I.hd 3
  have a4 := blk_cell I.hd 4
  have a5 := blk_cell I.hd 5
  have a6 := blk_cell I.hd 6
  have a7 := blk_cell I.hd 7
  have a8 := blk_cell I.hd 8
  have a9 := blk_cell I.hd 9
  have a10 := blk_cell I.hd 10
  have a11 := blk_cell I.hd 11
  have a12 := blk_cell I.hd 12
  have a13 := blk_cell I.hd 13
  have a14 := blk_cell I.hd 14
  simp only [List.getElem?_toArray, List.getElem?_cons_succ, List.getElem?_cons_zero] at a0 a1 a2 a3 a4 a5 a6 a7 a8 a9 a10 a11 a12 a13 a14
  have hlx := blk_lt I.hd
  clear I
  have KS0 := fun u => rside_calls (fa Y) u
  by_cases hK2 : K = 2
  · have hKk := hK2
    have hy := HV.out.f.yes (by omega)
    rw [hK2] at hy
    have q0 : Y = 0 := by have h : (Y == 0) = true := hy; simpa using h
    rw [show sdV (fa Y) = 2 from by rw [q0]; rfl] at KS0
    have KS := Lib.hid KS0
    clear hy KS0 q0
    go_wp2_with fail
    refine (KS.out _).mono ?_
    rintro e w' ⟨rfl, rfl⟩
    have E := Lib.hid (show RV = badA 2 ((fr : Int) + 8) from by rw [HV.out.bad 2 (by decide) hKk, show plD n 2 = 8 from if_neg (by have := HV.out.n12; omega)]; rfl)
    have KB := Lib.hid (fun u => rbad_calls 2 ((fr : Int) + 8) u)
    have hwp : IntKind.i64.wrap ((fr : Int) + 8) = (fr : Int) + 8 := IntWalk.i64_in _ (by omega)
    unfold badA at KB
    go_wp2_with fail
    refine (KS.out _).mono ?_
    rintro e w' ⟨rfl, rfl⟩
    go_wp2_with fail
    refine (KB.out _).mono ?_
    rintro e w9 ⟨rfl, g9⟩
    have B9 := old0 g9 HI.out.res (blk_lt HI.out.res) (by simp)
    have r0 := blk_cell B9 0
    have r1 := blk_cell B9 1
    have r2 := blk_cell B9 2
    have r3 := blk_cell B9 3
    have r4 := blk_cell B9 4
    have r5 := blk_cell B9 5
    have r6 := blk_cell B9 6
    have r7 := blk_cell B9 7
    have r8 := blk_cell B9 8
    have r9 := blk_cell B9 9
    have r10 := blk_cell B9 10
    have r11 := blk_cell B9 11
    have r12 := blk_cell B9 12
    have r13 := blk_cell B9 13
    have r14 := blk_cell B9 14
    have rf0 := blk_free B9 0
    have rf1 := blk_free B9 1
    have rf2 := blk_free B9 2
    have rf3 := blk_free B9 3
    have rf4 := blk_free B9 4
    have rf5 := blk_free B9 5
    have rf6 := blk_free B9 6
    have rf7 := blk_free B9 7
    have rf8 := blk_free B9 8
    have rf9 := blk_free B9 9
    have rf10 := blk_free B9 10
    have rf11 := blk_free B9 11
    have rf12 := blk_free B9 12
    have rf13 := blk_free B9 13
    have rf14 := blk_free B9 14
    simp only [List.getElem?_toArray, List.getElem?_cons_succ, List.getElem?_cons_zero] at r0 r1 r2 r3 r4 r5 r6 r7 r8 r9 r10 r11 r12 r13 r14
    have hlr := blk_lt B9
    have G9 := Lib.hid (gb_trans HI.out.gb g9)
    clear g9 B9 KB
    go_wp2
    refine bodyPost_ret (v := .agg (badA 2 ((fr : Int) + 8))) (by simp only [results, Tryd.results11, badA]; go_simp) rfl ⟨by rw [E.out], ?_⟩
    exact gb_own (gb_own (gb_own (gb_own (gb_own (gb_own (gb_own (gb_own (gb_own (gb_own (gb_own (gb_own (gb_own (gb_own (gb_own (G9.out) (Nat.le_refl _) (gb_set _ _ _ _)) (Nat.le_refl _) (gb_set _ _ _ _)) (Nat.le_refl _) (gb_set _ _ _ _)) (Nat.le_refl _) (gb_set _ _ _ _)) (Nat.le_refl _) (gb_set _ _ _ _)) (Nat.le_refl _) (gb_set _ _ _ _)) (Nat.le_refl _) (gb_set _ _ _ _)) (Nat.le_refl _) (gb_set _ _ _ _)) (Nat.le_refl _) (gb_set _ _ _ _)) (Nat.le_refl _) (gb_set _ _ _ _)) (Nat.le_refl _) (gb_set _ _ _ _)) (Nat.le_refl _) (gb_set _ _ _ _)) (Nat.le_refl _) (gb_set _ _ _ _)) (Nat.le_refl _) (gb_set _ _ _ _)) (Nat.le_refl _) (gb_set _ _ _ _)
  by_cases hK3 : K = 3
  · have hKk := hK3
    have hy := HV.out.f.yes (by omega)
    rw [hK3] at hy
    have q0 : 16384 < fa Y := of_decide_eq_true (show decide (16384 < fa Y) = true from hy)
    rw [show sdV (fa Y) = 3 from by unfold sdV; rw [if_neg (by omega), if_pos q0]] at KS0
    have KS := Lib.hid KS0
    clear hy KS0 q0
    go_wp2_with fail
    refine (KS.out _).mono ?_
    rintro e w' ⟨rfl, rfl⟩
    have E := Lib.hid (show RV = badA 3 ((fr : Int) + 8) from by rw [HV.out.bad 3 (by decide) hKk, show plD n 3 = 8 from if_neg (by have := HV.out.n12; omega)]; rfl)
    have KB := Lib.hid (fun u => rbad_calls 3 ((fr : Int) + 8) u)
    have hwp : IntKind.i64.wrap ((fr : Int) + 8) = (fr : Int) + 8 := IntWalk.i64_in _ (by omega)
    unfold badA at KB
    go_wp2_with fail
    refine (KS.out _).mono ?_
    rintro e w' ⟨rfl, rfl⟩
    go_wp2_with fail
    refine (KB.out _).mono ?_
    rintro e w9 ⟨rfl, g9⟩
    have B9 := old0 g9 HI.out.res (blk_lt HI.out.res) (by simp)
    have r0 := blk_cell B9 0
    have r1 := blk_cell B9 1
    have r2 := blk_cell B9 2
    have r3 := blk_cell B9 3
    have r4 := blk_cell B9 4
    have r5 := blk_cell B9 5
    have r6 := blk_cell B9 6
    have r7 := blk_cell B9 7
    have r8 := blk_cell B9 8
    have r9 := blk_cell B9 9
    have r10 := blk_cell B9 10
    have r11 := blk_cell B9 11
    have r12 := blk_cell B9 12
    have r13 := blk_cell B9 13
    have r14 := blk_cell B9 14
    have rf0 := blk_free B9 0
    have rf1 := blk_free B9 1
    have rf2 := blk_free B9 2
    have rf3 := blk_free B9 3
    have rf4 := blk_free B9 4
    have rf5 := blk_free B9 5
    have rf6 := blk_free B9 6
    have rf7 := blk_free B9 7
    have rf8 := blk_free B9 8
    have rf9 := blk_free B9 9
    have rf10 := blk_free B9 10
    have rf11 := blk_free B9 11
    have rf12 := blk_free B9 12
    have rf13 := blk_free B9 13
    have rf14 := blk_free B9 14
    simp only [List.getElem?_toArray, List.getElem?_cons_succ, List.getElem?_cons_zero] at r0 r1 r2 r3 r4 r5 r6 r7 r8 r9 r10 r11 r12 r13 r14
    have hlr := blk_lt B9
    have G9 := Lib.hid (gb_trans HI.out.gb g9)
    clear g9 B9 KB
    go_wp2
    refine bodyPost_ret (v := .agg (badA 3 ((fr : Int) + 8))) (by simp only [results, Tryd.results11, badA]; go_simp) rfl ⟨by rw [E.out], ?_⟩
    exact gb_own (gb_own (gb_own (gb_own (gb_own (gb_own (gb_own (gb_own (gb_own (gb_own (gb_own (gb_own (gb_own (gb_own (gb_own (G9.out) (Nat.le_refl _) (gb_set _ _ _ _)) (Nat.le_refl _) (gb_set _ _ _ _)) (Nat.le_refl _) (gb_set _ _ _ _)) (Nat.le_refl _) (gb_set _ _ _ _)) (Nat.le_refl _) (gb_set _ _ _ _)) (Nat.le_refl _) (gb_set _ _ _ _)) (Nat.le_refl _) (gb_set _ _ _ _)) (Nat.le_refl _) (gb_set _ _ _ _)) (Nat.le_refl _) (gb_set _ _ _ _)) (Nat.le_refl _) (gb_set _ _ _ _)) (Nat.le_refl _) (gb_set _ _ _ _)) (Nat.le_refl _) (gb_set _ _ _ _)) (Nat.le_refl _) (gb_set _ _ _ _)) (Nat.le_refl _) (gb_set _ _ _ _)) (Nat.le_refl _) (gb_set _ _ _ _)
  have hy := HV.out.f.no 2 (by have h1 := HLO.out; omega)
  have hz := HV.out.f.no 3 (by have h1 := HLO.out; omega)
  rw [show sdV (fa Y) = 0 from by
    have q0 : (Y == 0) = false := hy
    rw [beq_eq_false_iff_ne] at q0
    have q1 := of_decide_eq_false (show decide (16384 < fa Y) = false from hz)
    unfold sdV; rw [if_neg (by unfold fa; split <;> omega), if_neg q1]] at KS0
  have KS := Lib.hid KS0
  have hKn : 4 ≤ K := by have h1 := HLO.out; omega
  have hkn := Lib.hid hKn
  clear hy hz hK2 hK3 hKn KS0
  go_wp2_with fail
  refine (KS.out _).mono ?_
  rintro e w' ⟨rfl, rfl⟩
  go_upto_region 21 with fail
  exact from12 s b fr to n K X Y P D M C RV MV W HV.out KM.out KP.out HB40.out.1 HB40.out.2 HMV.out hkn.out hb _ HI.out _ _ _ _ _ _ _ _ _ _ _ _ _ _ _ _ _ _ _ _ _ _ _ _ _ _ _ _ _ _ _ _ _ _ _ _ _ _ _ _ _ _ _ _ _ _ _ _ _ _ _ _ _ _ _ _ _ _ _ _ _ _ _ _ _ _ _ _ _ _ _ _ _ _ _ _ _ _ _ _ _ _ _ _ _ _ _ _ _ _ _ _ _ _ _ _ _ _ _ _ _ _ _ _ _ _ _ _ _ _ _ _ _ _ _ _ _ _ _ _ _ _ _ _ _ _ _ _ _ _ _ _ _ _ _ _ _ _ _ _ _ _ _ _ _ _ _ _ _ _ _ _ _ _ _ _ _ _ _ _ _ _ _ _ _ _ _ _ _ _ _ _ _ _ _ _ _ _ _ _ _ _ _ _ _ _ _ _ _ _ _ _ _ _ _ _ _ _ _ _ _ _ _ _ _ _ _ _ _ _ _ _ _ _ _ _ _ _ _ _ _ _ _ _ (by assumption) (by assumption)

end Go.Proofs.YtikjfmpdfeaooaaDoor.Dh

/- The document's Read of a long head: from test 10 of its body on (written by wip/gen/di2.py). -/
namespace Go.Proofs.YtikjfmpdfeaooaaDoor.Dh
open Go.ChangeShapes Go.WideShapes Go.ChangeAt Go.RowKit
open Go.Proofs.YtikjfmpdfeaooaaDoor.Le Go.Proofs.YtikjfmpdfeaooaaDoor.Sr Go.Proofs.YtikjfmpdfeaooaaDoor.Ma
set_option linter.unusedVariables false

set_option maxRecDepth 100000 in
set_option maxHeartbeats 16000000 in
theorem from10 (s b : ByteArray) (fr to n K : Nat) (X Y P D M C : Int) (RV MV : Array Value) (W : World) (DVh : DV fr n K X Y P D M C RV MV) (KM0 : ∀ u, Calls Tryd.prog 35 #[.string s, .agg #[.int .i64 (n : Nat), .int .i64 X, .int .i64 (fa Y), .bool (decide (Y < 0)), .int .i64 D, .int .i64 M, .int .i64 (clrC D C), .int .i64 0, .int .i64 0, .int .i64 0, .int .i64 0, .int .i64 (fr : Nat), .int .i64 ((fr + n : Nat)), .int .i64 0, .int .i64 0], .int .i64 (to : Nat)] u fun e w' => e = .returned (.agg MV) ∧ u.grownBy w' none) (KP0 : ∀ u, Calls Tryd.prog 29 #[.string (b.extract 12 (12 + 2))] u fun e w' => e = .returned (.int .i64 P) ∧ u = w') (hb40 : 40 ≤ b.size) (hbm : b.size ≤ 9223372036854775807) (hMV : MVis MV) (lo : 0 ≤ K) (hb : Nat) (w5 : World) (I : DI W hb #[.int .i64 (n : Nat), .int .i64 X, .int .i64 (fa Y), .bool (decide (Y < 0)), .int .i64 D, .int .i64 M, .int .i64 C, .int .i64 0, .int .i64 0, .int .i64 0, .int .i64 0, .int .i64 (fr : Nat), .int .i64 ((fr + n : Nat)), .int .i64 0, .int .i64 0] w5) 
    (u10 u11 u12 u13 u14 u15 u16 u17 u18 u19 u20 u21 u22 u23 u24 u25 u26 u27 u28 u29 u30 u31 u32 u33 u34 u35 u36 u37 u38 u39 u40 u41 u42 u43 u44 u45 u46 u47 u48 u49 u50 u51 u52 u53 u54 u55 u56 u57 u58 u59 u60 u61 u62 u63 u64 u65 u66 u67 u68 u69 u70 u71 u72 u73 u74 u75 u76 u77 u78 u79 u80 u81 u82 u83 u84 u85 u86 u87 u88 u89 u90 u91 u92 u93 u94 u95 u96 u97 u98 u99 u100 u101 u102 u103 u104 u105 u106 u107 u108 u109 u110 u111 u112 u113 u114 u115 u116 u117 u118 u119 u120 u121 u122 u123 u124 u125 u126 u127 u128 u129 u130 u131 u132 u133 u134 u135 u136 u137 u138 u139 u140 u141 u142 u143 u144 u145 u146 u147 u148 u149 u150 u151 u152 u153 u154 u155 u156 u157 u158 u159 u160 u161 u162 u163 u164 u165 u166 u167 u168 u169 u170 u171 u172 u173 u174 u175 u176 u177 u178 u179 u180 u181 u182 u183 u184 u185 u186 u187 u188 u189 u190 u191 u192 u193 u194 u195 u196 u197 u198 u199 u200 u201 u202 u203 u204 u205 u206 u207 u208 u209 u210 u211 u212 u213 u214 u215 u216 u217 u218 u219 u220 u221 u222 u223 u224 u225 u226 u227 u228 u229 u230 u231 : Value) (K1 K2 : Act → World → Prop) (k1 : ∀ a w, Code.wp Tryd.prog (tl7 (hd7 (tl7 (tl7 (tl7 (tl7 (tl7 (tl7 (tl7 (tl7 (tl7 (tl7 (bd20))))))))))))) (Exit.then K2 (bodyPost Tryd.prog Tryd.f11 (fun e w' => e = .returned (.agg RV) ∧ W.grownBy w' none))) a w → K1 a w) (k2 : ∀ a w, Code.wp Tryd.prog (tl7 (tl7 (tl7 (tl7 (tl7 (tl7 (tl7 (tl7 (tl7 (tl7 (tl7 (bd20)))))))))))) (bodyPost Tryd.prog Tryd.f11 (fun e w' => e = .returned (.agg RV) ∧ W.grownBy w' none)) a w → K2 a w) :
    Code.wp Tryd.prog (hd7 (hd7 (tl7 (tl7 (tl7 (tl7 (tl7 (tl7 (tl7 (tl7 (tl7 (tl7 (bd20))))))))))))) (Exit.then K1 (Exit.then K2 (bodyPost Tryd.prog Tryd.f11 (fun e w' => e = .returned (.agg RV) ∧ W.grownBy w' none)))) { tmps := #[.string s, .int .i64 (fr : Nat), .int .i64 (to : Nat), undef, undef, undef, .pointer (some ⟨W.heap.size, 0, none⟩), .int .i64 (n : Nat), .string b, .pointer (some ⟨hb, 0, none⟩), u10, u11, u12, u13, u14, u15, u16, u17, u18, u19, u20, u21, u22, u23, u24, u25, u26, u27, u28, u29, u30, u31, u32, u33, u34, u35, u36, u37, u38, u39, u40, u41, u42, u43, u44, u45, u46, u47, u48, u49, u50, u51, u52, u53, u54, u55, u56, u57, u58, u59, u60, u61, u62, u63, u64, u65, u66, u67, u68, u69, u70, u71, u72, u73, u74, u75, u76, u77, u78, u79, u80, u81, u82, u83, u84, u85, u86, u87, u88, u89, u90, u91, u92, u93, u94, u95, u96, u97, u98, u99, u100, u101, u102, u103, u104, u105, u106, u107, u108, u109, u110, u111, u112, u113, u114, u115, u116, u117, u118, u119, u120, u121, u122, u123, u124, u125, u126, u127, u128, u129, u130, u131, u132, u133, u134, u135, u136, u137, u138, u139, u140, u141, u142, u143, u144, u145, u146, u147, u148, u149, u150, u151, u152, u153, u154, u155, u156, u157, u158, u159, u160, u161, u162, u163, u164, u165, u166, u167, u168, u169, u170, u171, u172, u173, u174, u175, u176, u177, u178, u179, u180, u181, u182, u183, u184, u185, u186, u187, u188, u189, u190, u191, u192, u193, u194, u195, u196, u197, u198, u199, u200, u201, u202, u203, u204, u205, u206, u207, u208, u209, u210, u211, u212, u213, u214, u215, u216, u217, u218, u219, u220, u221, u222, u223, u224, u225, u226, u227, u228, u229, u230, u231], defers := [] } w5 := by
  have HV := Lib.hid DVh
  have KM := Lib.hid KM0
  have KP := Lib.hid KP0
  have HB40 := Lib.hid (And.intro hb40 hbm)
  have HLO := Lib.hid lo
  have HMV := Lib.hid hMV
  clear hMV
  have ne1 : W.heap.size ≠ hb := by have := I.lt; omega
  have ne2 : hb ≠ W.heap.size := by have := I.lt; omega
  have HI := Lib.hid I
  have hfr := DVh.fle
  have hnl := DVh.nle
  clear DVh KM0 KP0 lo hb40 hbm
  conv => arg 2; whnf
  conv => arg 4; dsimp only
  conv at k1 => enter [a, w, 1, 2]; whnf
  conv at k2 => enter [a, w, 1, 2]; whnf
  have a0 := blk_cell I.hd 0
  have a1 := blk_cell I.hd 1
  have a2 := blk_cell I.hd 2
  have a3 := blk_cell I.hd 3
  have a4 := blk_cell I.hd 4
  have a5 := blk_cell I.hd 5
  have a6 := blk_cell I.hd 6
  have a7 := blk_cell I.hd 7
  have a8 := blk_cell I.hd 8
  have a9 := blk_cell I.hd 9
  have a10 := blk_cell I.hd 10
  have a11 := blk_cell I.hd 11
  have a12 := blk_cell I.hd 12
  have a13 := blk_cell I.hd 13
  have a14 := blk_cell I.hd 14
  simp only [List.getElem?_toArray, List.getElem?_cons_succ, List.getElem?_cons_zero] at a0 a1 a2 a3 a4 a5 a6 a7 a8 a9 a10 a11 a12 a13 a14
  have hlx := blk_lt I.hd
  clear I
  have KS0 := fun u => rside_calls X u
  by_cases hK0 : K = 0
  · have hKk := hK0
    have hy := HV.out.f.yes (by omega)
    rw [hK0] at hy
    have q0 : X ≤ 0 := by have h := of_decide_eq_true (show decide (X < 1) = true from hy); omega
    rw [show sdV X = 2 from if_pos q0] at KS0
    have KS := Lib.hid KS0
    clear hy KS0 q0
    go_wp2_with fail
    refine (KS.out _).mono ?_
    rintro e w' ⟨rfl, rfl⟩
    have E := Lib.hid (show RV = badA 2 ((fr : Int) + 4) from HV.out.bad 0 (by decide) hKk)
    have KB := Lib.hid (fun u => rbad_calls 2 ((fr : Int) + 4) u)
    have hwp : IntKind.i64.wrap ((fr : Int) + 4) = (fr : Int) + 4 := IntWalk.i64_in _ (by omega)
    unfold badA at KB
    go_wp2_with fail
    refine (KS.out _).mono ?_
    rintro e w' ⟨rfl, rfl⟩
    go_wp2_with fail
    refine (KB.out _).mono ?_
    rintro e w9 ⟨rfl, g9⟩
    have B9 := old0 g9 HI.out.res (blk_lt HI.out.res) (by simp)
    have r0 := blk_cell B9 0
    have r1 := blk_cell B9 1
    have r2 := blk_cell B9 2
    have r3 := blk_cell B9 3
    have r4 := blk_cell B9 4
    have r5 := blk_cell B9 5
    have r6 := blk_cell B9 6
    have r7 := blk_cell B9 7
    have r8 := blk_cell B9 8
    have r9 := blk_cell B9 9
    have r10 := blk_cell B9 10
    have r11 := blk_cell B9 11
    have r12 := blk_cell B9 12
    have r13 := blk_cell B9 13
    have r14 := blk_cell B9 14
    have rf0 := blk_free B9 0
    have rf1 := blk_free B9 1
    have rf2 := blk_free B9 2
    have rf3 := blk_free B9 3
    have rf4 := blk_free B9 4
    have rf5 := blk_free B9 5
    have rf6 := blk_free B9 6
    have rf7 := blk_free B9 7
    have rf8 := blk_free B9 8
    have rf9 := blk_free B9 9
    have rf10 := blk_free B9 10
    have rf11 := blk_free B9 11
    have rf12 := blk_free B9 12
    have rf13 := blk_free B9 13
    have rf14 := blk_free B9 14
    simp only [List.getElem?_toArray, List.getElem?_cons_succ, List.getElem?_cons_zero] at r0 r1 r2 r3 r4 r5 r6 r7 r8 r9 r10 r11 r12 r13 r14
    have hlr := blk_lt B9
    have G9 := Lib.hid (gb_trans HI.out.gb g9)
    clear g9 B9 KB
    go_wp2
    refine bodyPost_ret (v := .agg (badA 2 ((fr : Int) + 4))) (by simp only [results, Tryd.results11, badA]; go_simp) rfl ⟨by rw [E.out], ?_⟩
    exact gb_own (gb_own (gb_own (gb_own (gb_own (gb_own (gb_own (gb_own (gb_own (gb_own (gb_own (gb_own (gb_own (gb_own (gb_own (G9.out) (Nat.le_refl _) (gb_set _ _ _ _)) (Nat.le_refl _) (gb_set _ _ _ _)) (Nat.le_refl _) (gb_set _ _ _ _)) (Nat.le_refl _) (gb_set _ _ _ _)) (Nat.le_refl _) (gb_set _ _ _ _)) (Nat.le_refl _) (gb_set _ _ _ _)) (Nat.le_refl _) (gb_set _ _ _ _)) (Nat.le_refl _) (gb_set _ _ _ _)) (Nat.le_refl _) (gb_set _ _ _ _)) (Nat.le_refl _) (gb_set _ _ _ _)) (Nat.le_refl _) (gb_set _ _ _ _)) (Nat.le_refl _) (gb_set _ _ _ _)) (Nat.le_refl _) (gb_set _ _ _ _)) (Nat.le_refl _) (gb_set _ _ _ _)) (Nat.le_refl _) (gb_set _ _ _ _)
  by_cases hK1 : K = 1
  · have hKk := hK1
    have hy := HV.out.f.yes (by omega)
    rw [hK1] at hy
    have q0 : 16384 < X := of_decide_eq_true (show decide (16384 < X) = true from hy)
    rw [show sdV X = 3 from by unfold sdV; rw [if_neg (by omega), if_pos q0]] at KS0
    have KS := Lib.hid KS0
    clear hy KS0 q0
    go_wp2_with fail
    refine (KS.out _).mono ?_
    rintro e w' ⟨rfl, rfl⟩
    have E := Lib.hid (show RV = badA 3 ((fr : Int) + 4) from HV.out.bad 1 (by decide) hKk)
    have KB := Lib.hid (fun u => rbad_calls 3 ((fr : Int) + 4) u)
    have hwp : IntKind.i64.wrap ((fr : Int) + 4) = (fr : Int) + 4 := IntWalk.i64_in _ (by omega)
    unfold badA at KB
    go_wp2_with fail
    refine (KS.out _).mono ?_
    rintro e w' ⟨rfl, rfl⟩
    go_wp2_with fail
    refine (KB.out _).mono ?_
    rintro e w9 ⟨rfl, g9⟩
    have B9 := old0 g9 HI.out.res (blk_lt HI.out.res) (by simp)
    have r0 := blk_cell B9 0
    have r1 := blk_cell B9 1
    have r2 := blk_cell B9 2
    have r3 := blk_cell B9 3
    have r4 := blk_cell B9 4
    have r5 := blk_cell B9 5
    have r6 := blk_cell B9 6
    have r7 := blk_cell B9 7
    have r8 := blk_cell B9 8
    have r9 := blk_cell B9 9
    have r10 := blk_cell B9 10
    have r11 := blk_cell B9 11
    have r12 := blk_cell B9 12
    have r13 := blk_cell B9 13
    have r14 := blk_cell B9 14
    have rf0 := blk_free B9 0
    have rf1 := blk_free B9 1
    have rf2 := blk_free B9 2
    have rf3 := blk_free B9 3
    have rf4 := blk_free B9 4
    have rf5 := blk_free B9 5
    have rf6 := blk_free B9 6
    have rf7 := blk_free B9 7
    have rf8 := blk_free B9 8
    have rf9 := blk_free B9 9
    have rf10 := blk_free B9 10
    have rf11 := blk_free B9 11
    have rf12 := blk_free B9 12
    have rf13 := blk_free B9 13
    have rf14 := blk_free B9 14
    simp only [List.getElem?_toArray, List.getElem?_cons_succ, List.getElem?_cons_zero] at r0 r1 r2 r3 r4 r5 r6 r7 r8 r9 r10 r11 r12 r13 r14
    have hlr := blk_lt B9
    have G9 := Lib.hid (gb_trans HI.out.gb g9)
    clear g9 B9 KB
    go_wp2
    refine bodyPost_ret (v := .agg (badA 3 ((fr : Int) + 4))) (by simp only [results, Tryd.results11, badA]; go_simp) rfl ⟨by rw [E.out], ?_⟩
    exact gb_own (gb_own (gb_own (gb_own (gb_own (gb_own (gb_own (gb_own (gb_own (gb_own (gb_own (gb_own (gb_own (gb_own (gb_own (G9.out) (Nat.le_refl _) (gb_set _ _ _ _)) (Nat.le_refl _) (gb_set _ _ _ _)) (Nat.le_refl _) (gb_set _ _ _ _)) (Nat.le_refl _) (gb_set _ _ _ _)) (Nat.le_refl _) (gb_set _ _ _ _)) (Nat.le_refl _) (gb_set _ _ _ _)) (Nat.le_refl _) (gb_set _ _ _ _)) (Nat.le_refl _) (gb_set _ _ _ _)) (Nat.le_refl _) (gb_set _ _ _ _)) (Nat.le_refl _) (gb_set _ _ _ _)) (Nat.le_refl _) (gb_set _ _ _ _)) (Nat.le_refl _) (gb_set _ _ _ _)) (Nat.le_refl _) (gb_set _ _ _ _)) (Nat.le_refl _) (gb_set _ _ _ _)) (Nat.le_refl _) (gb_set _ _ _ _)
  have hy := HV.out.f.no 0 (by have h1 := HLO.out; omega)
  have hz := HV.out.f.no 1 (by have h1 := HLO.out; omega)
  rw [show sdV X = 0 from by
    have q0 := of_decide_eq_false (show decide (X < 1) = false from hy)
    have q1 := of_decide_eq_false (show decide (16384 < X) = false from hz)
    unfold sdV; rw [if_neg (by omega), if_neg q1]] at KS0
  have KS := Lib.hid KS0
  have hKn : 2 ≤ K := by have h1 := HLO.out; omega
  have hkn := Lib.hid hKn
  clear hy hz hK0 hK1 hKn KS0
  go_wp2_with fail
  refine (KS.out _).mono ?_
  rintro e w' ⟨rfl, rfl⟩
  go_upto_region 19 with fail
  exact from11 s b fr to n K X Y P D M C RV MV W HV.out KM.out KP.out HB40.out.1 HB40.out.2 HMV.out hkn.out hb _ HI.out _ _ _ _ _ _ _ _ _ _ _ _ _ _ _ _ _ _ _ _ _ _ _ _ _ _ _ _ _ _ _ _ _ _ _ _ _ _ _ _ _ _ _ _ _ _ _ _ _ _ _ _ _ _ _ _ _ _ _ _ _ _ _ _ _ _ _ _ _ _ _ _ _ _ _ _ _ _ _ _ _ _ _ _ _ _ _ _ _ _ _ _ _ _ _ _ _ _ _ _ _ _ _ _ _ _ _ _ _ _ _ _ _ _ _ _ _ _ _ _ _ _ _ _ _ _ _ _ _ _ _ _ _ _ _ _ _ _ _ _ _ _ _ _ _ _ _ _ _ _ _ _ _ _ _ _ _ _ _ _ _ _ _ _ _ _ _ _ _ _ _ _ _ _ _ _ _ _ _ _ _ _ _ _ _ _ _ _ _ _ _ _ _ _ _ _ _ _ _ _ _ _ _ _ _ _ _ _ _ _ _ _ _ _ _ _ _ _ _ _ _ _ _ _ (by assumption) (by assumption)

end Go.Proofs.YtikjfmpdfeaooaaDoor.Dh

/- The document's Read of a long head, from its start on (written by wip/gen/di3.py). -/
namespace Go.Proofs.YtikjfmpdfeaooaaDoor.Dh
open Go.ChangeShapes Go.WideShapes Go.ChangeAt Go.RowKit
open Go.Proofs.YtikjfmpdfeaooaaDoor.Le Go.Proofs.YtikjfmpdfeaooaaDoor.Sr Go.Proofs.YtikjfmpdfeaooaaDoor.Ma
set_option linter.unusedVariables false

set_option maxRecDepth 100000 in
set_option maxHeartbeats 16000000 in
theorem rlong_40 (s z : ByteArray) (fr to K : Nat) (X Y P D M C : Int) (RV MV : Array Value) (W : World) (DVh : DV fr 40 K X Y P D M C RV MV) (hz : s.extract fr (fr + 40) = z) (hto : fr + 40 ≤ to) (hts : to ≤ s.size) (hsm : s.size ≤ 9223372036854775807) (hn4 : w4 s fr = 40)
    (hX : sgn (w4 z 4) = X) (hY : sgn (w4 z 8) = Y) (hP : ((w2 z 12 : Nat) : Int) = P) (hD : ((w2 z 14 : Nat) : Int) = D) (hM : ((w4 z 16 : Nat) : Int) = M) (hC : ((w4 z 32 : Nat) : Int) = C) (KM0 : ∀ u, Calls Tryd.prog 35 #[.string s, .agg #[.int .i64 (40 : Nat), .int .i64 X, .int .i64 (fa Y), .bool (decide (Y < 0)), .int .i64 D, .int .i64 M, .int .i64 (clrC D C), .int .i64 0, .int .i64 0, .int .i64 0, .int .i64 0, .int .i64 (fr : Nat), .int .i64 ((fr + 40 : Nat)), .int .i64 0, .int .i64 0], .int .i64 (to : Nat)] u fun e w' => e = .returned (.agg MV) ∧ u.grownBy w' none) (hMV : MVis MV) :
    Calls Tryd.prog 11 #[.string s, .int .i64 (fr : Nat), .int .i64 (to : Nat)] W fun e w' => e = .returned (.agg RV) ∧ W.grownBy w' none := by
  have hzs : z.size = 40 := by rw [← hz, ByteArray.size_extract]; omega
  have HV := Lib.hid DVh
  have KM := Lib.hid KM0
  have HMV := Lib.hid hMV
  have hfr := DVh.fle
  have K4 := fun u => le4_is s fr (by omega) u
  rw [hn4] at K4
  have K4 := Lib.hid (show ∀ u, Calls Tryd.prog 29 #[.string (s.extract fr (fr + 4))] u fun e w' => e = .returned (.int .i64 40) ∧ u = w' from K4)
  have KX0 := fun u => sg4_is z 4 (by omega) u
  have KY0 := fun u => sg4_is z 8 (by omega) u
  have KD0 := fun u => le2_is z 14 (by omega) u
  have KM40 := fun u => le4_is z 16 (by omega) u
  have KC0 := fun u => le4_is z 32 (by omega) u
  have KP0 := fun u => le2_is z 12 (by omega) u
  rw [hX] at KX0
  rw [hY] at KY0
  rw [hD] at KD0
  rw [hM] at KM40
  rw [hC] at KC0
  rw [hP] at KP0
  have KX := Lib.hid KX0
  have KY := Lib.hid KY0
  have KD := Lib.hid KD0
  have KM4 := Lib.hid KM40
  have KC := Lib.hid KC0
  have KP := Lib.hid KP0
  have hYb : -2147483648 ≤ Y ∧ Y ≤ 2147483647 := by have := w4_lt z 8; rw [← hY]; unfold sgn; split <;> omega
  have sN : ∀ w, (Instr.slice 9 (.string s) (some (.int .i64 (fr : Nat))) (some (.int .i64 ((fr + 4 : Nat) : Int))) none).run Tryd.prog w = .ok (.string (s.extract fr (fr + 4))) w := fun w => cut_at s fr 4 (by omega) w
  have sZ : ∀ w, (Instr.slice 9 (.string s) (some (.int .i64 (fr : Nat))) (some (.int .i64 ((fr + 40 : Nat) : Int))) none).run Tryd.prog w = .ok (.string z) w := fun w => by rw [← hz]; exact cut_at s fr 40 (by omega) w
  have w4w : IntKind.i64.wrap ((fr : Int) + 4) = ((fr + 4 : Nat) : Int) := by rw [IntWalk.i64_in _ (by omega)]; omega
  have wnw : IntKind.i64.wrap ((fr : Int) + 40) = ((fr + 40 : Nat) : Int) := by rw [IntWalk.i64_in _ (by omega)]; omega
  obtain ⟨d, hd⟩ : ∃ d : Int, (to : Int) - fr = d := ⟨_, rfl⟩
  have wd : IntKind.i64.wrap ((to : Int) - fr) = d := by rw [IntWalk.i64_in _ (by omega)]; exact hd
  have d4 : ¬ d < 4 := by omega
  have dn : ¬ d < 40 := by omega
  obtain ⟨q4, hq4⟩ : ∃ q : Int, ((fr + 4 : Nat) : Int) = q := ⟨_, rfl⟩
  obtain ⟨q, hq⟩ : ∃ q : Int, ((fr + 40 : Nat) : Int) = q := ⟨_, rfl⟩
  have HQ := Lib.hid hq
  rw [hq4] at sN w4w
  rw [hq] at sZ wnw
  have s1 : ∀ w, (Instr.slice 9 (.string z) (some (.int .i64 4)) (some (.int .i64 8)) none).run Tryd.prog w = .ok (.string (z.extract 4 (4 + 4))) w := fun w => cut_at z 4 4 (by omega) w
  have s2 : ∀ w, (Instr.slice 9 (.string z) (some (.int .i64 8)) (some (.int .i64 12)) none).run Tryd.prog w = .ok (.string (z.extract 8 (8 + 4))) w := fun w => cut_at z 8 4 (by omega) w
  have s3 : ∀ w, (Instr.slice 9 (.string z) (some (.int .i64 14)) (some (.int .i64 16)) none).run Tryd.prog w = .ok (.string (z.extract 14 (14 + 2))) w := fun w => cut_at z 14 2 (by omega) w
  have s4 : ∀ w, (Instr.slice 9 (.string z) (some (.int .i64 16)) (some (.int .i64 20)) none).run Tryd.prog w = .ok (.string (z.extract 16 (16 + 4))) w := fun w => cut_at z 16 4 (by omega) w
  have s5 : ∀ w, (Instr.slice 9 (.string z) (some (.int .i64 32)) (some (.int .i64 36)) none).run Tryd.prog w = .ok (.string (z.extract 32 (32 + 4))) w := fun w => cut_at z 32 4 (by omega) w
  have HZS := Lib.hid hzs
  have wY : IntKind.i64.wrap (-Y) = -Y := by rw [IntKind.wrap_i64]; omega
  have wY' : IntKind.i64.wrap (0 - Y) = -Y := by rw [IntKind.wrap_i64]; omega
  clear DVh KM0 hMV KX0 KY0 KD0 KM40 KC0 KP0 hX hY hD hM hC hP hn4 hto hts hsm hd hq4 hq hz hYb
  go_enter Tryd.func11, Tryd.ntmps11
  go_wp2_with fail
  refine (K4.out _).mono ?_
  rintro e w' ⟨rfl, rfl⟩
  go_upto_region 13 with fail
  have hl0 : W.heap.size < (W.alloc (.cells #[.int .i64 0, .int .i64 0, .int .i64 0, .bool false, .int .i64 0, .int .i64 0, .int .i64 0, .int .i64 0, .int .i64 0, .int .i64 0, .int .i64 0, .int .i64 0, .int .i64 0, .int .i64 0, .int .i64 0] 37)).heap.size := by rw [size_alloc]; omega
  have hl1 : (W.alloc (.cells #[.int .i64 0, .int .i64 0, .int .i64 0, .bool false, .int .i64 0, .int .i64 0, .int .i64 0, .int .i64 0, .int .i64 0, .int .i64 0, .int .i64 0, .int .i64 0, .int .i64 0, .int .i64 0, .int .i64 0] 37)).heap.size = W.heap.size + 1 := size_alloc _ _
  have R0 := blk_at (w := W) (o := .cells #[.int .i64 0, .int .i64 0, .int .i64 0, .bool false, .int .i64 0, .int .i64 0, .int .i64 0, .int .i64 0, .int .i64 0, .int .i64 0, .int .i64 0, .int .i64 0, .int .i64 0, .int .i64 0, .int .i64 0] 37)
  have G0 := World.grownBy_alloc W (.cells #[.int .i64 0, .int .i64 0, .int .i64 0, .bool false, .int .i64 0, .int .i64 0, .int .i64 0, .int .i64 0, .int .i64 0, .int .i64 0, .int .i64 0, .int .i64 0, .int .i64 0, .int .i64 0, .int .i64 0] 37) none
  generalize W.alloc (.cells #[.int .i64 0, .int .i64 0, .int .i64 0, .bool false, .int .i64 0, .int .i64 0, .int .i64 0, .int .i64 0, .int .i64 0, .int .i64 0, .int .i64 0, .int .i64 0, .int .i64 0, .int .i64 0, .int .i64 0] 37) = w0 at R0 G0 hl0 hl1 ⊢
  go_region_held3 (fun _ => True) (trivial)
    (first
      | (go_at_call 31; with_reducible refine (KX.out _).mono ?_; rintro e w' ⟨rfl, rfl⟩)
      | (go_at_call 31; with_reducible refine (KY.out _).mono ?_; rintro e w' ⟨rfl, rfl⟩)
      | (go_at_call 29; with_reducible refine (KD.out _).mono ?_; rintro e w' ⟨rfl, rfl⟩)
      | (go_at_call 29; with_reducible refine (KM4.out _).mono ?_; rintro e w' ⟨rfl, rfl⟩)
      | (go_at_call 29; with_reducible refine (KC.out _).mono ?_; rintro e w' ⟨rfl, rfl⟩))
  all_goals
    refine abs_w (R := DI W (W.heap.size + 1) #[.int .i64 40, .int .i64 X, .int .i64 Y, .bool false, .int .i64 D, .int .i64 M, .int .i64 C, .int .i64 0, .int .i64 0, .int .i64 0, .int .i64 0, .int .i64 (fr : Nat), .int .i64 q, .int .i64 0, .int .i64 0]) ⟨?_, ?_, ?_, ?_⟩ (fun w5 I => ?_)
    · first | exact blk_al R0 _ | exact (blk_al (w := w0.drew) R0 _)
    · first | (rw [← hl1]; exact blk_at (w := w0)) | (rw [← hl1]; exact blk_at (w := w0.drew))
    · first | exact gb_trans (gb_trans G0 (World.grownBy_alloc w0 _ none)) (gb_drew _ _) | exact gb_trans (gb_trans G0 (gb_drew w0 _)) (World.grownBy_alloc w0.drew _ none)
    · omega
    have HI := Lib.hid I
    have f2 := blk_free I.hd 2
    have f3 := blk_free I.hd 3
    have a0 := blk_cell I.hd 0
    have a1 := blk_cell I.hd 1
    have a2 := blk_cell I.hd 2
    have a3 := blk_cell I.hd 3
    have a4 := blk_cell I.hd 4
    have a5 := blk_cell I.hd 5
    have a6 := blk_cell I.hd 6
    have a7 := blk_cell I.hd 7
    have a8 := blk_cell I.hd 8
    have a9 := blk_cell I.hd 9
    have a10 := blk_cell I.hd 10
    have a11 := blk_cell I.hd 11
    have a12 := blk_cell I.hd 12
    have a13 := blk_cell I.hd 13
    have a14 := blk_cell I.hd 14
    simp only [List.getElem?_toArray, List.getElem?_cons_succ, List.getElem?_cons_zero] at a0 a1 a2 a3 a4 a5 a6 a7 a8 a9 a10 a11 a12 a13 a14
    have hlx := blk_lt I.hd
    clear I
    have ne1 : W.heap.size ≠ W.heap.size + 1 := by omega
    have ne2 : W.heap.size + 1 ≠ W.heap.size := by omega
    clear R0 G0 hl0 hl1 KX KY KD KM4 KC K4 sN sZ w4w wnw wd d4 dn s1 s2 s3 s4 s5
    by_cases hY : Y < 0
    · have dY : decide (Y < 0) = true := decide_eq_true hY
      have fY : fa Y = -Y := if_neg (by omega)
      have HY2 := Lib.hid (And.intro dY fY)
      clear dY fY
      go_upto_region 17 with fail
      refine abs_w (R := DI W (W.heap.size + 1) #[.int .i64 40, .int .i64 X, .int .i64 (fa Y), .bool (decide (Y < 0)), .int .i64 D, .int .i64 M, .int .i64 C, .int .i64 0, .int .i64 0, .int .i64 0, .int .i64 0, .int .i64 (fr : Nat), .int .i64 q, .int .i64 0, .int .i64 0]) ?_ (fun w7 I7 => ?_)
      · rw [HY2.out.1, HY2.out.2]
        exact ⟨blk_other (blk_other HI.out.res ne1) ne1, blk_set (blk_set HI.out.hd 3 _) 2 _, gb_own (gb_own HI.out.gb (Nat.le_succ _) (gb_set _ _ _ _)) (Nat.le_succ _) (gb_set _ _ _ _), HI.out.lt⟩
      have hq := HQ.out
      subst hq
      exact from10 s z fr to 40 K X Y P D M C RV MV W HV.out KM.out KP.out (by have := HZS.out; omega) (by have := HZS.out; omega) HMV.out (Nat.zero_le _) (W.heap.size + 1) w7 I7 _ _ _ _ _ _ _ _ _ _ _ _ _ _ _ _ _ _ _ _ _ _ _ _ _ _ _ _ _ _ _ _ _ _ _ _ _ _ _ _ _ _ _ _ _ _ _ _ _ _ _ _ _ _ _ _ _ _ _ _ _ _ _ _ _ _ _ _ _ _ _ _ _ _ _ _ _ _ _ _ _ _ _ _ _ _ _ _ _ _ _ _ _ _ _ _ _ _ _ _ _ _ _ _ _ _ _ _ _ _ _ _ _ _ _ _ _ _ _ _ _ _ _ _ _ _ _ _ _ _ _ _ _ _ _ _ _ _ _ _ _ _ _ _ _ _ _ _ _ _ _ _ _ _ _ _ _ _ _ _ _ _ _ _ _ _ _ _ _ _ _ _ _ _ _ _ _ _ _ _ _ _ _ _ _ _ _ _ _ _ _ _ _ _ _ _ _ _ _ _ _ _ _ _ _ _ _ _ _ _ _ _ _ _ _ _ _ _ _ _ _ _ _ _ (by assumption) (by assumption)
    · have dY : decide (Y < 0) = false := decide_eq_false hY
      have fY : fa Y = Y := if_pos (by omega)
      have HY2 := Lib.hid (And.intro dY fY)
      clear dY fY
      go_upto_region 17 with fail
      have I7 : DI W (W.heap.size + 1) #[.int .i64 40, .int .i64 X, .int .i64 (fa Y), .bool (decide (Y < 0)), .int .i64 D, .int .i64 M, .int .i64 C, .int .i64 0, .int .i64 0, .int .i64 0, .int .i64 0, .int .i64 (fr : Nat), .int .i64 q, .int .i64 0, .int .i64 0] w5 := by
        rw [HY2.out.1, HY2.out.2]
        exact HI.out
      have hq := HQ.out
      subst hq
      exact from10 s z fr to 40 K X Y P D M C RV MV W HV.out KM.out KP.out (by have := HZS.out; omega) (by have := HZS.out; omega) HMV.out (Nat.zero_le _) (W.heap.size + 1) w5 I7 _ _ _ _ _ _ _ _ _ _ _ _ _ _ _ _ _ _ _ _ _ _ _ _ _ _ _ _ _ _ _ _ _ _ _ _ _ _ _ _ _ _ _ _ _ _ _ _ _ _ _ _ _ _ _ _ _ _ _ _ _ _ _ _ _ _ _ _ _ _ _ _ _ _ _ _ _ _ _ _ _ _ _ _ _ _ _ _ _ _ _ _ _ _ _ _ _ _ _ _ _ _ _ _ _ _ _ _ _ _ _ _ _ _ _ _ _ _ _ _ _ _ _ _ _ _ _ _ _ _ _ _ _ _ _ _ _ _ _ _ _ _ _ _ _ _ _ _ _ _ _ _ _ _ _ _ _ _ _ _ _ _ _ _ _ _ _ _ _ _ _ _ _ _ _ _ _ _ _ _ _ _ _ _ _ _ _ _ _ _ _ _ _ _ _ _ _ _ _ _ _ _ _ _ _ _ _ _ _ _ _ _ _ _ _ _ _ _ _ _ _ _ _ _ (by assumption) (by assumption)

end Go.Proofs.YtikjfmpdfeaooaaDoor.Dh

/- The document's Read of a long head, from its start on (written by wip/gen/di3.py). -/
namespace Go.Proofs.YtikjfmpdfeaooaaDoor.Dh
open Go.ChangeShapes Go.WideShapes Go.ChangeAt Go.RowKit
open Go.Proofs.YtikjfmpdfeaooaaDoor.Le Go.Proofs.YtikjfmpdfeaooaaDoor.Sr Go.Proofs.YtikjfmpdfeaooaaDoor.Ma
set_option linter.unusedVariables false

set_option maxRecDepth 100000 in
set_option maxHeartbeats 16000000 in
theorem rlong_52 (s z : ByteArray) (fr to K : Nat) (X Y P D M C : Int) (RV MV : Array Value) (W : World) (DVh : DV fr 52 K X Y P D M C RV MV) (hz : s.extract fr (fr + 52) = z) (hto : fr + 52 ≤ to) (hts : to ≤ s.size) (hsm : s.size ≤ 9223372036854775807) (hn4 : w4 s fr = 52)
    (hX : sgn (w4 z 4) = X) (hY : sgn (w4 z 8) = Y) (hP : ((w2 z 12 : Nat) : Int) = P) (hD : ((w2 z 14 : Nat) : Int) = D) (hM : ((w4 z 16 : Nat) : Int) = M) (hC : ((w4 z 32 : Nat) : Int) = C) (KM0 : ∀ u, Calls Tryd.prog 35 #[.string s, .agg #[.int .i64 (52 : Nat), .int .i64 X, .int .i64 (fa Y), .bool (decide (Y < 0)), .int .i64 D, .int .i64 M, .int .i64 (clrC D C), .int .i64 0, .int .i64 0, .int .i64 0, .int .i64 0, .int .i64 (fr : Nat), .int .i64 ((fr + 52 : Nat)), .int .i64 0, .int .i64 0], .int .i64 (to : Nat)] u fun e w' => e = .returned (.agg MV) ∧ u.grownBy w' none) (hMV : MVis MV) :
    Calls Tryd.prog 11 #[.string s, .int .i64 (fr : Nat), .int .i64 (to : Nat)] W fun e w' => e = .returned (.agg RV) ∧ W.grownBy w' none := by
  have hzs : z.size = 52 := by rw [← hz, ByteArray.size_extract]; omega
  have HV := Lib.hid DVh
  have KM := Lib.hid KM0
  have HMV := Lib.hid hMV
  have hfr := DVh.fle
  have K4 := fun u => le4_is s fr (by omega) u
  rw [hn4] at K4
  have K4 := Lib.hid (show ∀ u, Calls Tryd.prog 29 #[.string (s.extract fr (fr + 4))] u fun e w' => e = .returned (.int .i64 52) ∧ u = w' from K4)
  have KX0 := fun u => sg4_is z 4 (by omega) u
  have KY0 := fun u => sg4_is z 8 (by omega) u
  have KD0 := fun u => le2_is z 14 (by omega) u
  have KM40 := fun u => le4_is z 16 (by omega) u
  have KC0 := fun u => le4_is z 32 (by omega) u
  have KP0 := fun u => le2_is z 12 (by omega) u
  rw [hX] at KX0
  rw [hY] at KY0
  rw [hD] at KD0
  rw [hM] at KM40
  rw [hC] at KC0
  rw [hP] at KP0
  have KX := Lib.hid KX0
  have KY := Lib.hid KY0
  have KD := Lib.hid KD0
  have KM4 := Lib.hid KM40
  have KC := Lib.hid KC0
  have KP := Lib.hid KP0
  have hYb : -2147483648 ≤ Y ∧ Y ≤ 2147483647 := by have := w4_lt z 8; rw [← hY]; unfold sgn; split <;> omega
  have sN : ∀ w, (Instr.slice 9 (.string s) (some (.int .i64 (fr : Nat))) (some (.int .i64 ((fr + 4 : Nat) : Int))) none).run Tryd.prog w = .ok (.string (s.extract fr (fr + 4))) w := fun w => cut_at s fr 4 (by omega) w
  have sZ : ∀ w, (Instr.slice 9 (.string s) (some (.int .i64 (fr : Nat))) (some (.int .i64 ((fr + 52 : Nat) : Int))) none).run Tryd.prog w = .ok (.string z) w := fun w => by rw [← hz]; exact cut_at s fr 52 (by omega) w
  have w4w : IntKind.i64.wrap ((fr : Int) + 4) = ((fr + 4 : Nat) : Int) := by rw [IntWalk.i64_in _ (by omega)]; omega
  have wnw : IntKind.i64.wrap ((fr : Int) + 52) = ((fr + 52 : Nat) : Int) := by rw [IntWalk.i64_in _ (by omega)]; omega
  obtain ⟨d, hd⟩ : ∃ d : Int, (to : Int) - fr = d := ⟨_, rfl⟩
  have wd : IntKind.i64.wrap ((to : Int) - fr) = d := by rw [IntWalk.i64_in _ (by omega)]; exact hd
  have d4 : ¬ d < 4 := by omega
  have dn : ¬ d < 52 := by omega
  obtain ⟨q4, hq4⟩ : ∃ q : Int, ((fr + 4 : Nat) : Int) = q := ⟨_, rfl⟩
  obtain ⟨q, hq⟩ : ∃ q : Int, ((fr + 52 : Nat) : Int) = q := ⟨_, rfl⟩
  have HQ := Lib.hid hq
  rw [hq4] at sN w4w
  rw [hq] at sZ wnw
  have s1 : ∀ w, (Instr.slice 9 (.string z) (some (.int .i64 4)) (some (.int .i64 8)) none).run Tryd.prog w = .ok (.string (z.extract 4 (4 + 4))) w := fun w => cut_at z 4 4 (by omega) w
  have s2 : ∀ w, (Instr.slice 9 (.string z) (some (.int .i64 8)) (some (.int .i64 12)) none).run Tryd.prog w = .ok (.string (z.extract 8 (8 + 4))) w := fun w => cut_at z 8 4 (by omega) w
  have s3 : ∀ w, (Instr.slice 9 (.string z) (some (.int .i64 14)) (some (.int .i64 16)) none).run Tryd.prog w = .ok (.string (z.extract 14 (14 + 2))) w := fun w => cut_at z 14 2 (by omega) w
  have s4 : ∀ w, (Instr.slice 9 (.string z) (some (.int .i64 16)) (some (.int .i64 20)) none).run Tryd.prog w = .ok (.string (z.extract 16 (16 + 4))) w := fun w => cut_at z 16 4 (by omega) w
  have s5 : ∀ w, (Instr.slice 9 (.string z) (some (.int .i64 32)) (some (.int .i64 36)) none).run Tryd.prog w = .ok (.string (z.extract 32 (32 + 4))) w := fun w => cut_at z 32 4 (by omega) w
  have HZS := Lib.hid hzs
  have wY : IntKind.i64.wrap (-Y) = -Y := by rw [IntKind.wrap_i64]; omega
  have wY' : IntKind.i64.wrap (0 - Y) = -Y := by rw [IntKind.wrap_i64]; omega
  clear DVh KM0 hMV KX0 KY0 KD0 KM40 KC0 KP0 hX hY hD hM hC hP hn4 hto hts hsm hd hq4 hq hz hYb
  go_enter Tryd.func11, Tryd.ntmps11
  go_wp2_with fail
  refine (K4.out _).mono ?_
  rintro e w' ⟨rfl, rfl⟩
  go_upto_region 13 with fail
  have hl0 : W.heap.size < (W.alloc (.cells #[.int .i64 0, .int .i64 0, .int .i64 0, .bool false, .int .i64 0, .int .i64 0, .int .i64 0, .int .i64 0, .int .i64 0, .int .i64 0, .int .i64 0, .int .i64 0, .int .i64 0, .int .i64 0, .int .i64 0] 37)).heap.size := by rw [size_alloc]; omega
  have hl1 : (W.alloc (.cells #[.int .i64 0, .int .i64 0, .int .i64 0, .bool false, .int .i64 0, .int .i64 0, .int .i64 0, .int .i64 0, .int .i64 0, .int .i64 0, .int .i64 0, .int .i64 0, .int .i64 0, .int .i64 0, .int .i64 0] 37)).heap.size = W.heap.size + 1 := size_alloc _ _
  have R0 := blk_at (w := W) (o := .cells #[.int .i64 0, .int .i64 0, .int .i64 0, .bool false, .int .i64 0, .int .i64 0, .int .i64 0, .int .i64 0, .int .i64 0, .int .i64 0, .int .i64 0, .int .i64 0, .int .i64 0, .int .i64 0, .int .i64 0] 37)
  have G0 := World.grownBy_alloc W (.cells #[.int .i64 0, .int .i64 0, .int .i64 0, .bool false, .int .i64 0, .int .i64 0, .int .i64 0, .int .i64 0, .int .i64 0, .int .i64 0, .int .i64 0, .int .i64 0, .int .i64 0, .int .i64 0, .int .i64 0] 37) none
  generalize W.alloc (.cells #[.int .i64 0, .int .i64 0, .int .i64 0, .bool false, .int .i64 0, .int .i64 0, .int .i64 0, .int .i64 0, .int .i64 0, .int .i64 0, .int .i64 0, .int .i64 0, .int .i64 0, .int .i64 0, .int .i64 0] 37) = w0 at R0 G0 hl0 hl1 ⊢
  go_region_held3 (fun _ => True) (trivial)
    (first
      | (go_at_call 31; with_reducible refine (KX.out _).mono ?_; rintro e w' ⟨rfl, rfl⟩)
      | (go_at_call 31; with_reducible refine (KY.out _).mono ?_; rintro e w' ⟨rfl, rfl⟩)
      | (go_at_call 29; with_reducible refine (KD.out _).mono ?_; rintro e w' ⟨rfl, rfl⟩)
      | (go_at_call 29; with_reducible refine (KM4.out _).mono ?_; rintro e w' ⟨rfl, rfl⟩)
      | (go_at_call 29; with_reducible refine (KC.out _).mono ?_; rintro e w' ⟨rfl, rfl⟩))
  all_goals
    refine abs_w (R := DI W (W.heap.size + 1) #[.int .i64 52, .int .i64 X, .int .i64 Y, .bool false, .int .i64 D, .int .i64 M, .int .i64 C, .int .i64 0, .int .i64 0, .int .i64 0, .int .i64 0, .int .i64 (fr : Nat), .int .i64 q, .int .i64 0, .int .i64 0]) ⟨?_, ?_, ?_, ?_⟩ (fun w5 I => ?_)
    · first | exact blk_al R0 _ | exact (blk_al (w := w0.drew) R0 _)
    · first | (rw [← hl1]; exact blk_at (w := w0)) | (rw [← hl1]; exact blk_at (w := w0.drew))
    · first | exact gb_trans (gb_trans G0 (World.grownBy_alloc w0 _ none)) (gb_drew _ _) | exact gb_trans (gb_trans G0 (gb_drew w0 _)) (World.grownBy_alloc w0.drew _ none)
    · omega
    have HI := Lib.hid I
    have f2 := blk_free I.hd 2
    have f3 := blk_free I.hd 3
    have a0 := blk_cell I.hd 0
    have a1 := blk_cell I.hd 1
    have a2 := blk_cell I.hd 2
    have a3 := blk_cell I.hd 3
    have a4 := blk_cell I.hd 4
    have a5 := blk_cell I.hd 5
    have a6 := blk_cell I.hd 6
    have a7 := blk_cell I.hd 7
    have a8 := blk_cell I.hd 8
    have a9 := blk_cell I.hd 9
    have a10 := blk_cell I.hd 10
    have a11 := blk_cell I.hd 11
    have a12 := blk_cell I.hd 12
    have a13 := blk_cell I.hd 13
    have a14 := blk_cell I.hd 14
    simp only [List.getElem?_toArray, List.getElem?_cons_succ, List.getElem?_cons_zero] at a0 a1 a2 a3 a4 a5 a6 a7 a8 a9 a10 a11 a12 a13 a14
    have hlx := blk_lt I.hd
    clear I
    have ne1 : W.heap.size ≠ W.heap.size + 1 := by omega
    have ne2 : W.heap.size + 1 ≠ W.heap.size := by omega
    clear R0 G0 hl0 hl1 KX KY KD KM4 KC K4 sN sZ w4w wnw wd d4 dn s1 s2 s3 s4 s5
    by_cases hY : Y < 0
    · have dY : decide (Y < 0) = true := decide_eq_true hY
      have fY : fa Y = -Y := if_neg (by omega)
      have HY2 := Lib.hid (And.intro dY fY)
      clear dY fY
      go_upto_region 17 with fail
      refine abs_w (R := DI W (W.heap.size + 1) #[.int .i64 52, .int .i64 X, .int .i64 (fa Y), .bool (decide (Y < 0)), .int .i64 D, .int .i64 M, .int .i64 C, .int .i64 0, .int .i64 0, .int .i64 0, .int .i64 0, .int .i64 (fr : Nat), .int .i64 q, .int .i64 0, .int .i64 0]) ?_ (fun w7 I7 => ?_)
      · rw [HY2.out.1, HY2.out.2]
        exact ⟨blk_other (blk_other HI.out.res ne1) ne1, blk_set (blk_set HI.out.hd 3 _) 2 _, gb_own (gb_own HI.out.gb (Nat.le_succ _) (gb_set _ _ _ _)) (Nat.le_succ _) (gb_set _ _ _ _), HI.out.lt⟩
      have hq := HQ.out
      subst hq
      exact from10 s z fr to 52 K X Y P D M C RV MV W HV.out KM.out KP.out (by have := HZS.out; omega) (by have := HZS.out; omega) HMV.out (Nat.zero_le _) (W.heap.size + 1) w7 I7 _ _ _ _ _ _ _ _ _ _ _ _ _ _ _ _ _ _ _ _ _ _ _ _ _ _ _ _ _ _ _ _ _ _ _ _ _ _ _ _ _ _ _ _ _ _ _ _ _ _ _ _ _ _ _ _ _ _ _ _ _ _ _ _ _ _ _ _ _ _ _ _ _ _ _ _ _ _ _ _ _ _ _ _ _ _ _ _ _ _ _ _ _ _ _ _ _ _ _ _ _ _ _ _ _ _ _ _ _ _ _ _ _ _ _ _ _ _ _ _ _ _ _ _ _ _ _ _ _ _ _ _ _ _ _ _ _ _ _ _ _ _ _ _ _ _ _ _ _ _ _ _ _ _ _ _ _ _ _ _ _ _ _ _ _ _ _ _ _ _ _ _ _ _ _ _ _ _ _ _ _ _ _ _ _ _ _ _ _ _ _ _ _ _ _ _ _ _ _ _ _ _ _ _ _ _ _ _ _ _ _ _ _ _ _ _ _ _ _ _ _ _ _ _ (by assumption) (by assumption)
    · have dY : decide (Y < 0) = false := decide_eq_false hY
      have fY : fa Y = Y := if_pos (by omega)
      have HY2 := Lib.hid (And.intro dY fY)
      clear dY fY
      go_upto_region 17 with fail
      have I7 : DI W (W.heap.size + 1) #[.int .i64 52, .int .i64 X, .int .i64 (fa Y), .bool (decide (Y < 0)), .int .i64 D, .int .i64 M, .int .i64 C, .int .i64 0, .int .i64 0, .int .i64 0, .int .i64 0, .int .i64 (fr : Nat), .int .i64 q, .int .i64 0, .int .i64 0] w5 := by
        rw [HY2.out.1, HY2.out.2]
        exact HI.out
      have hq := HQ.out
      subst hq
      exact from10 s z fr to 52 K X Y P D M C RV MV W HV.out KM.out KP.out (by have := HZS.out; omega) (by have := HZS.out; omega) HMV.out (Nat.zero_le _) (W.heap.size + 1) w5 I7 _ _ _ _ _ _ _ _ _ _ _ _ _ _ _ _ _ _ _ _ _ _ _ _ _ _ _ _ _ _ _ _ _ _ _ _ _ _ _ _ _ _ _ _ _ _ _ _ _ _ _ _ _ _ _ _ _ _ _ _ _ _ _ _ _ _ _ _ _ _ _ _ _ _ _ _ _ _ _ _ _ _ _ _ _ _ _ _ _ _ _ _ _ _ _ _ _ _ _ _ _ _ _ _ _ _ _ _ _ _ _ _ _ _ _ _ _ _ _ _ _ _ _ _ _ _ _ _ _ _ _ _ _ _ _ _ _ _ _ _ _ _ _ _ _ _ _ _ _ _ _ _ _ _ _ _ _ _ _ _ _ _ _ _ _ _ _ _ _ _ _ _ _ _ _ _ _ _ _ _ _ _ _ _ _ _ _ _ _ _ _ _ _ _ _ _ _ _ _ _ _ _ _ _ _ _ _ _ _ _ _ _ _ _ _ _ _ _ _ _ _ _ _ _ (by assumption) (by assumption)

end Go.Proofs.YtikjfmpdfeaooaaDoor.Dh

/- The document's Read of a long head, from its start on (written by wip/gen/di3.py). -/
namespace Go.Proofs.YtikjfmpdfeaooaaDoor.Dh
open Go.ChangeShapes Go.WideShapes Go.ChangeAt Go.RowKit
open Go.Proofs.YtikjfmpdfeaooaaDoor.Le Go.Proofs.YtikjfmpdfeaooaaDoor.Sr Go.Proofs.YtikjfmpdfeaooaaDoor.Ma
set_option linter.unusedVariables false

set_option maxRecDepth 100000 in
set_option maxHeartbeats 16000000 in
theorem rlong_56 (s z : ByteArray) (fr to K : Nat) (X Y P D M C : Int) (RV MV : Array Value) (W : World) (DVh : DV fr 56 K X Y P D M C RV MV) (hz : s.extract fr (fr + 56) = z) (hto : fr + 56 ≤ to) (hts : to ≤ s.size) (hsm : s.size ≤ 9223372036854775807) (hn4 : w4 s fr = 56)
    (hX : sgn (w4 z 4) = X) (hY : sgn (w4 z 8) = Y) (hP : ((w2 z 12 : Nat) : Int) = P) (hD : ((w2 z 14 : Nat) : Int) = D) (hM : ((w4 z 16 : Nat) : Int) = M) (hC : ((w4 z 32 : Nat) : Int) = C) (KM0 : ∀ u, Calls Tryd.prog 35 #[.string s, .agg #[.int .i64 (56 : Nat), .int .i64 X, .int .i64 (fa Y), .bool (decide (Y < 0)), .int .i64 D, .int .i64 M, .int .i64 (clrC D C), .int .i64 0, .int .i64 0, .int .i64 0, .int .i64 0, .int .i64 (fr : Nat), .int .i64 ((fr + 56 : Nat)), .int .i64 0, .int .i64 0], .int .i64 (to : Nat)] u fun e w' => e = .returned (.agg MV) ∧ u.grownBy w' none) (hMV : MVis MV) :
    Calls Tryd.prog 11 #[.string s, .int .i64 (fr : Nat), .int .i64 (to : Nat)] W fun e w' => e = .returned (.agg RV) ∧ W.grownBy w' none := by
  have hzs : z.size = 56 := by rw [← hz, ByteArray.size_extract]; omega
  have HV := Lib.hid DVh
  have KM := Lib.hid KM0
  have HMV := Lib.hid hMV
  have hfr := DVh.fle
  have K4 := fun u => le4_is s fr (by omega) u
  rw [hn4] at K4
  have K4 := Lib.hid (show ∀ u, Calls Tryd.prog 29 #[.string (s.extract fr (fr + 4))] u fun e w' => e = .returned (.int .i64 56) ∧ u = w' from K4)
  have KX0 := fun u => sg4_is z 4 (by omega) u
  have KY0 := fun u => sg4_is z 8 (by omega) u
  have KD0 := fun u => le2_is z 14 (by omega) u
  have KM40 := fun u => le4_is z 16 (by omega) u
  have KC0 := fun u => le4_is z 32 (by omega) u
  have KP0 := fun u => le2_is z 12 (by omega) u
  rw [hX] at KX0
  rw [hY] at KY0
  rw [hD] at KD0
  rw [hM] at KM40
  rw [hC] at KC0
  rw [hP] at KP0
  have KX := Lib.hid KX0
  have KY := Lib.hid KY0
  have KD := Lib.hid KD0
  have KM4 := Lib.hid KM40
  have KC := Lib.hid KC0
  have KP := Lib.hid KP0
  have hYb : -2147483648 ≤ Y ∧ Y ≤ 2147483647 := by have := w4_lt z 8; rw [← hY]; unfold sgn; split <;> omega
  have sN : ∀ w, (Instr.slice 9 (.string s) (some (.int .i64 (fr : Nat))) (some (.int .i64 ((fr + 4 : Nat) : Int))) none).run Tryd.prog w = .ok (.string (s.extract fr (fr + 4))) w := fun w => cut_at s fr 4 (by omega) w
  have sZ : ∀ w, (Instr.slice 9 (.string s) (some (.int .i64 (fr : Nat))) (some (.int .i64 ((fr + 56 : Nat) : Int))) none).run Tryd.prog w = .ok (.string z) w := fun w => by rw [← hz]; exact cut_at s fr 56 (by omega) w
  have w4w : IntKind.i64.wrap ((fr : Int) + 4) = ((fr + 4 : Nat) : Int) := by rw [IntWalk.i64_in _ (by omega)]; omega
  have wnw : IntKind.i64.wrap ((fr : Int) + 56) = ((fr + 56 : Nat) : Int) := by rw [IntWalk.i64_in _ (by omega)]; omega
  obtain ⟨d, hd⟩ : ∃ d : Int, (to : Int) - fr = d := ⟨_, rfl⟩
  have wd : IntKind.i64.wrap ((to : Int) - fr) = d := by rw [IntWalk.i64_in _ (by omega)]; exact hd
  have d4 : ¬ d < 4 := by omega
  have dn : ¬ d < 56 := by omega
  obtain ⟨q4, hq4⟩ : ∃ q : Int, ((fr + 4 : Nat) : Int) = q := ⟨_, rfl⟩
  obtain ⟨q, hq⟩ : ∃ q : Int, ((fr + 56 : Nat) : Int) = q := ⟨_, rfl⟩
  have HQ := Lib.hid hq
  rw [hq4] at sN w4w
  rw [hq] at sZ wnw
  have s1 : ∀ w, (Instr.slice 9 (.string z) (some (.int .i64 4)) (some (.int .i64 8)) none).run Tryd.prog w = .ok (.string (z.extract 4 (4 + 4))) w := fun w => cut_at z 4 4 (by omega) w
  have s2 : ∀ w, (Instr.slice 9 (.string z) (some (.int .i64 8)) (some (.int .i64 12)) none).run Tryd.prog w = .ok (.string (z.extract 8 (8 + 4))) w := fun w => cut_at z 8 4 (by omega) w
  have s3 : ∀ w, (Instr.slice 9 (.string z) (some (.int .i64 14)) (some (.int .i64 16)) none).run Tryd.prog w = .ok (.string (z.extract 14 (14 + 2))) w := fun w => cut_at z 14 2 (by omega) w
  have s4 : ∀ w, (Instr.slice 9 (.string z) (some (.int .i64 16)) (some (.int .i64 20)) none).run Tryd.prog w = .ok (.string (z.extract 16 (16 + 4))) w := fun w => cut_at z 16 4 (by omega) w
  have s5 : ∀ w, (Instr.slice 9 (.string z) (some (.int .i64 32)) (some (.int .i64 36)) none).run Tryd.prog w = .ok (.string (z.extract 32 (32 + 4))) w := fun w => cut_at z 32 4 (by omega) w
  have HZS := Lib.hid hzs
  have wY : IntKind.i64.wrap (-Y) = -Y := by rw [IntKind.wrap_i64]; omega
  have wY' : IntKind.i64.wrap (0 - Y) = -Y := by rw [IntKind.wrap_i64]; omega
  clear DVh KM0 hMV KX0 KY0 KD0 KM40 KC0 KP0 hX hY hD hM hC hP hn4 hto hts hsm hd hq4 hq hz hYb
  go_enter Tryd.func11, Tryd.ntmps11
  go_wp2_with fail
  refine (K4.out _).mono ?_
  rintro e w' ⟨rfl, rfl⟩
  go_upto_region 13 with fail
  have hl0 : W.heap.size < (W.alloc (.cells #[.int .i64 0, .int .i64 0, .int .i64 0, .bool false, .int .i64 0, .int .i64 0, .int .i64 0, .int .i64 0, .int .i64 0, .int .i64 0, .int .i64 0, .int .i64 0, .int .i64 0, .int .i64 0, .int .i64 0] 37)).heap.size := by rw [size_alloc]; omega
  have hl1 : (W.alloc (.cells #[.int .i64 0, .int .i64 0, .int .i64 0, .bool false, .int .i64 0, .int .i64 0, .int .i64 0, .int .i64 0, .int .i64 0, .int .i64 0, .int .i64 0, .int .i64 0, .int .i64 0, .int .i64 0, .int .i64 0] 37)).heap.size = W.heap.size + 1 := size_alloc _ _
  have R0 := blk_at (w := W) (o := .cells #[.int .i64 0, .int .i64 0, .int .i64 0, .bool false, .int .i64 0, .int .i64 0, .int .i64 0, .int .i64 0, .int .i64 0, .int .i64 0, .int .i64 0, .int .i64 0, .int .i64 0, .int .i64 0, .int .i64 0] 37)
  have G0 := World.grownBy_alloc W (.cells #[.int .i64 0, .int .i64 0, .int .i64 0, .bool false, .int .i64 0, .int .i64 0, .int .i64 0, .int .i64 0, .int .i64 0, .int .i64 0, .int .i64 0, .int .i64 0, .int .i64 0, .int .i64 0, .int .i64 0] 37) none
  generalize W.alloc (.cells #[.int .i64 0, .int .i64 0, .int .i64 0, .bool false, .int .i64 0, .int .i64 0, .int .i64 0, .int .i64 0, .int .i64 0, .int .i64 0, .int .i64 0, .int .i64 0, .int .i64 0, .int .i64 0, .int .i64 0] 37) = w0 at R0 G0 hl0 hl1 ⊢
  go_region_held3 (fun _ => True) (trivial)
    (first
      | (go_at_call 31; with_reducible refine (KX.out _).mono ?_; rintro e w' ⟨rfl, rfl⟩)
      | (go_at_call 31; with_reducible refine (KY.out _).mono ?_; rintro e w' ⟨rfl, rfl⟩)
      | (go_at_call 29; with_reducible refine (KD.out _).mono ?_; rintro e w' ⟨rfl, rfl⟩)
      | (go_at_call 29; with_reducible refine (KM4.out _).mono ?_; rintro e w' ⟨rfl, rfl⟩)
      | (go_at_call 29; with_reducible refine (KC.out _).mono ?_; rintro e w' ⟨rfl, rfl⟩))
  all_goals
    refine abs_w (R := DI W (W.heap.size + 1) #[.int .i64 56, .int .i64 X, .int .i64 Y, .bool false, .int .i64 D, .int .i64 M, .int .i64 C, .int .i64 0, .int .i64 0, .int .i64 0, .int .i64 0, .int .i64 (fr : Nat), .int .i64 q, .int .i64 0, .int .i64 0]) ⟨?_, ?_, ?_, ?_⟩ (fun w5 I => ?_)
    · first | exact blk_al R0 _ | exact (blk_al (w := w0.drew) R0 _)
    · first | (rw [← hl1]; exact blk_at (w := w0)) | (rw [← hl1]; exact blk_at (w := w0.drew))
    · first | exact gb_trans (gb_trans G0 (World.grownBy_alloc w0 _ none)) (gb_drew _ _) | exact gb_trans (gb_trans G0 (gb_drew w0 _)) (World.grownBy_alloc w0.drew _ none)
    · omega
    have HI := Lib.hid I
    have f2 := blk_free I.hd 2
    have f3 := blk_free I.hd 3
    have a0 := blk_cell I.hd 0
    have a1 := blk_cell I.hd 1
    have a2 := blk_cell I.hd 2
    have a3 := blk_cell I.hd 3
    have a4 := blk_cell I.hd 4
    have a5 := blk_cell I.hd 5
    have a6 := blk_cell I.hd 6
    have a7 := blk_cell I.hd 7
    have a8 := blk_cell I.hd 8
    have a9 := blk_cell I.hd 9
    have a10 := blk_cell I.hd 10
    have a11 := blk_cell I.hd 11
    have a12 := blk_cell I.hd 12
    have a13 := blk_cell I.hd 13
    have a14 := blk_cell I.hd 14
    simp only [List.getElem?_toArray, List.getElem?_cons_succ, List.getElem?_cons_zero] at a0 a1 a2 a3 a4 a5 a6 a7 a8 a9 a10 a11 a12 a13 a14
    have hlx := blk_lt I.hd
    clear I
    have ne1 : W.heap.size ≠ W.heap.size + 1 := by omega
    have ne2 : W.heap.size + 1 ≠ W.heap.size := by omega
    clear R0 G0 hl0 hl1 KX KY KD KM4 KC K4 sN sZ w4w wnw wd d4 dn s1 s2 s3 s4 s5
    by_cases hY : Y < 0
    · have dY : decide (Y < 0) = true := decide_eq_true hY
      have fY : fa Y = -Y := if_neg (by omega)
      have HY2 := Lib.hid (And.intro dY fY)
      clear dY fY
      go_upto_region 17 with fail
      refine abs_w (R := DI W (W.heap.size + 1) #[.int .i64 56, .int .i64 X, .int .i64 (fa Y), .bool (decide (Y < 0)), .int .i64 D, .int .i64 M, .int .i64 C, .int .i64 0, .int .i64 0, .int .i64 0, .int .i64 0, .int .i64 (fr : Nat), .int .i64 q, .int .i64 0, .int .i64 0]) ?_ (fun w7 I7 => ?_)
      · rw [HY2.out.1, HY2.out.2]
        exact ⟨blk_other (blk_other HI.out.res ne1) ne1, blk_set (blk_set HI.out.hd 3 _) 2 _, gb_own (gb_own HI.out.gb (Nat.le_succ _) (gb_set _ _ _ _)) (Nat.le_succ _) (gb_set _ _ _ _), HI.out.lt⟩
      have hq := HQ.out
      subst hq
      exact from10 s z fr to 56 K X Y P D M C RV MV W HV.out KM.out KP.out (by have := HZS.out; omega) (by have := HZS.out; omega) HMV.out (Nat.zero_le _) (W.heap.size + 1) w7 I7 _ _ _ _ _ _ _ _ _ _ _ _ _ _ _ _ _ _ _ _ _ _ _ _ _ _ _ _ _ _ _ _ _ _ _ _ _ _ _ _ _ _ _ _ _ _ _ _ _ _ _ _ _ _ _ _ _ _ _ _ _ _ _ _ _ _ _ _ _ _ _ _ _ _ _ _ _ _ _ _ _ _ _ _ _ _ _ _ _ _ _ _ _ _ _ _ _ _ _ _ _ _ _ _ _ _ _ _ _ _ _ _ _ _ _ _ _ _ _ _ _ _ _ _ _ _ _ _ _ _ _ _ _ _ _ _ _ _ _ _ _ _ _ _ _ _ _ _ _ _ _ _ _ _ _ _ _ _ _ _ _ _ _ _ _ _ _ _ _ _ _ _ _ _ _ _ _ _ _ _ _ _ _ _ _ _ _ _ _ _ _ _ _ _ _ _ _ _ _ _ _ _ _ _ _ _ _ _ _ _ _ _ _ _ _ _ _ _ _ _ _ _ _ _ (by assumption) (by assumption)
    · have dY : decide (Y < 0) = false := decide_eq_false hY
      have fY : fa Y = Y := if_pos (by omega)
      have HY2 := Lib.hid (And.intro dY fY)
      clear dY fY
      go_upto_region 17 with fail
      have I7 : DI W (W.heap.size + 1) #[.int .i64 56, .int .i64 X, .int .i64 (fa Y), .bool (decide (Y < 0)), .int .i64 D, .int .i64 M, .int .i64 C, .int .i64 0, .int .i64 0, .int .i64 0, .int .i64 0, .int .i64 (fr : Nat), .int .i64 q, .int .i64 0, .int .i64 0] w5 := by
        rw [HY2.out.1, HY2.out.2]
        exact HI.out
      have hq := HQ.out
      subst hq
      exact from10 s z fr to 56 K X Y P D M C RV MV W HV.out KM.out KP.out (by have := HZS.out; omega) (by have := HZS.out; omega) HMV.out (Nat.zero_le _) (W.heap.size + 1) w5 I7 _ _ _ _ _ _ _ _ _ _ _ _ _ _ _ _ _ _ _ _ _ _ _ _ _ _ _ _ _ _ _ _ _ _ _ _ _ _ _ _ _ _ _ _ _ _ _ _ _ _ _ _ _ _ _ _ _ _ _ _ _ _ _ _ _ _ _ _ _ _ _ _ _ _ _ _ _ _ _ _ _ _ _ _ _ _ _ _ _ _ _ _ _ _ _ _ _ _ _ _ _ _ _ _ _ _ _ _ _ _ _ _ _ _ _ _ _ _ _ _ _ _ _ _ _ _ _ _ _ _ _ _ _ _ _ _ _ _ _ _ _ _ _ _ _ _ _ _ _ _ _ _ _ _ _ _ _ _ _ _ _ _ _ _ _ _ _ _ _ _ _ _ _ _ _ _ _ _ _ _ _ _ _ _ _ _ _ _ _ _ _ _ _ _ _ _ _ _ _ _ _ _ _ _ _ _ _ _ _ _ _ _ _ _ _ _ _ _ _ _ _ _ _ _ (by assumption) (by assumption)

end Go.Proofs.YtikjfmpdfeaooaaDoor.Dh
