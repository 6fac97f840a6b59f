/- Texts of one kind, one behind the other: DiE, DiF16, DiF15, DiF14, DiF13. -/
import Derived.Test.YtikjfmpdfeaooaaDoorG21
import Derived.Test.YtikjfmpdfeaooaaDoorG25
import Derived.Test.YtikjfmpdfeaooaaDoorG26
/- The document's Read of a long head, from the count's test on (written by wip/gen/di1.py). -/
namespace Go.Proofs.YtikjfmpdfeaooaaDoor.Dh
open Go.ChangeShapes Go.WideShapes Go.ChangeAt Go.RowKit
open Go.Proofs.YtikjfmpdfeaooaaDoor.Le Go.Proofs.YtikjfmpdfeaooaaDoor.Sr Go.Proofs.YtikjfmpdfeaooaaDoor.Ma
set_option linter.unusedVariables false

set_option maxRecDepth 100000 in
set_option maxHeartbeats 16000000 in
theorem from17 (s b : ByteArray) (fr to n K : Nat) (X Y P D M C : Int) (RV MV : Array Value) (W : World) (DVh : DV fr n K X Y P D M C RV MV) (KM0 : ∀ u, Calls Tryd.prog 35 #[.string s, .agg #[.int .i64 (n : Nat), .int .i64 X, .int .i64 (fa Y), .bool (decide (Y < 0)), .int .i64 D, .int .i64 M, .int .i64 (clrC D C), .int .i64 0, .int .i64 0, .int .i64 0, .int .i64 0, .int .i64 (fr : Nat), .int .i64 ((fr + n : Nat)), .int .i64 0, .int .i64 0], .int .i64 (to : Nat)] u fun e w' => e = .returned (.agg MV) ∧ u.grownBy w' none) (KP0 : ∀ u, Calls Tryd.prog 29 #[.string (b.extract 12 (12 + 2))] u fun e w' => e = .returned (.int .i64 P) ∧ u = w') (hb40 : 40 ≤ b.size) (hbm : b.size ≤ 9223372036854775807) (hMV : MVis MV) (lo : 9 ≤ K) (hb : Nat) (w5 : World) (I : DI W hb #[.int .i64 (n : Nat), .int .i64 X, .int .i64 (fa Y), .bool (decide (Y < 0)), .int .i64 D, .int .i64 M, .int .i64 C, .int .i64 0, .int .i64 0, .int .i64 0, .int .i64 0, .int .i64 (fr : Nat), .int .i64 ((fr + n : Nat)), .int .i64 0, .int .i64 0] w5) 
    (u10 u11 u12 u13 u14 u15 u16 u17 u18 u19 u20 u21 u22 u23 u24 u25 u26 u27 u28 u29 u30 u31 u32 u33 u34 u35 u36 u37 u38 u39 u40 u41 u42 u43 u44 u45 u46 u47 u48 u49 u50 u51 u52 u53 u54 u55 u56 u57 u58 u59 u60 u61 u62 u63 u64 u65 u66 u67 u68 u69 u70 u71 u72 u73 u74 u75 u76 u77 u78 u79 u80 u81 u82 u83 u84 u85 u86 u87 u88 u89 u90 u91 u92 u93 u94 u95 u96 u97 u98 u99 u100 u101 u102 u103 u104 u105 u106 u107 u108 u109 u110 u111 u112 u113 u114 u115 u116 u117 u118 u119 u120 u121 u122 u123 u124 u125 u126 u127 u128 u129 u130 u131 u132 u133 u134 u135 u136 u137 u138 u139 u140 u141 u142 u143 u144 u145 u146 u147 u148 u149 u150 u151 u152 u153 u154 u155 u156 u157 u158 u159 u160 u161 u162 u163 u164 u165 u166 u167 u168 u169 u170 u171 u172 u173 u174 u175 u176 u177 u178 u179 u180 u181 u182 u183 u184 u185 u186 u187 u188 u189 u190 u191 u192 u193 u194 u195 u196 u197 u198 u199 u200 u201 u202 u203 u204 u205 u206 u207 u208 u209 u210 u211 u212 u213 u214 u215 u216 u217 u218 u219 u220 u221 u222 u223 u224 u225 u226 u227 u228 u229 u230 u231 : Value) (K1 K2 : Act → World → Prop) (k1 : ∀ a w, Code.wp Tryd.prog (tl7 (hd7 (tl7 (tl7 (tl7 (tl7 (tl7 (tl7 (tl7 (tl7 (tl7 (tl7 (tl7 (tl7 (tl7 (tl7 (tl7 (tl7 (tl7 (bd20)))))))))))))))))))) (Exit.then K2 (bodyPost Tryd.prog Tryd.f11 (fun e w' => e = .returned (.agg RV) ∧ W.grownBy w' none))) a w → K1 a w) (k2 : ∀ a w, Code.wp Tryd.prog (tl7 (tl7 (tl7 (tl7 (tl7 (tl7 (tl7 (tl7 (tl7 (tl7 (tl7 (tl7 (tl7 (tl7 (tl7 (tl7 (tl7 (tl7 (bd20))))))))))))))))))) (bodyPost Tryd.prog Tryd.f11 (fun e w' => e = .returned (.agg RV) ∧ W.grownBy w' none)) a w → K2 a w) :
    Code.wp Tryd.prog (hd7 (hd7 (tl7 (tl7 (tl7 (tl7 (tl7 (tl7 (tl7 (tl7 (tl7 (tl7 (tl7 (tl7 (tl7 (tl7 (tl7 (tl7 (tl7 (bd20)))))))))))))))))))) (Exit.then K1 (Exit.then K2 (bodyPost Tryd.prog Tryd.f11 (fun e w' => e = .returned (.agg RV) ∧ W.grownBy w' none)))) { tmps := #[.string s, .int .i64 (fr : Nat), .int .i64 (to : Nat), undef, undef, undef, .pointer (some ⟨W.heap.size, 0, none⟩), .int .i64 (n : Nat), .string b, .pointer (some ⟨hb, 0, none⟩), u10, u11, u12, u13, u14, u15, u16, u17, u18, u19, u20, u21, u22, u23, u24, u25, u26, u27, u28, u29, u30, u31, u32, u33, u34, u35, u36, u37, u38, u39, u40, u41, u42, u43, u44, u45, u46, u47, u48, u49, u50, u51, u52, u53, u54, u55, u56, u57, u58, u59, u60, u61, u62, u63, u64, u65, u66, u67, u68, u69, u70, u71, u72, u73, u74, u75, u76, u77, u78, u79, u80, u81, u82, u83, u84, u85, u86, u87, u88, u89, u90, u91, u92, u93, u94, u95, u96, u97, u98, u99, u100, u101, u102, u103, u104, u105, u106, u107, u108, u109, u110, u111, u112, u113, u114, u115, u116, u117, u118, u119, u120, u121, u122, u123, u124, u125, u126, u127, u128, u129, u130, u131, u132, u133, u134, u135, u136, u137, u138, u139, u140, u141, u142, u143, u144, u145, u146, u147, u148, u149, u150, u151, u152, u153, u154, u155, u156, u157, u158, u159, u160, u161, u162, u163, u164, u165, u166, u167, u168, u169, u170, u171, u172, u173, u174, u175, u176, u177, u178, u179, u180, u181, u182, u183, u184, u185, u186, u187, u188, u189, u190, u191, u192, u193, u194, u195, u196, u197, u198, u199, u200, u201, u202, u203, u204, u205, u206, u207, u208, u209, u210, u211, u212, u213, u214, u215, u216, u217, u218, u219, u220, u221, u222, u223, u224, u225, u226, u227, u228, u229, u230, u231], defers := [] } w5 := by
  have d5 : dp6 D = true := by
    have h := DVh.f.no 5 (by omega)
    rw [show ckD n X Y P D M C 5 = !(dpH D n) from rfl, dp_6 DVh.n12] at h
    simpa using h
  obtain rfl | rfl | rfl | rfl | rfl | rfl := of_decide_eq_true d5
  · exact from17_1 s b fr to n K X Y P M C RV MV W DVh KM0 KP0 hb40 hbm hMV lo hb w5 I u10 u11 u12 u13 u14 u15 u16 u17 u18 u19 u20 u21 u22 u23 u24 u25 u26 u27 u28 u29 u30 u31 u32 u33 u34 u35 u36 u37 u38 u39 u40 u41 u42 u43 u44 u45 u46 u47 u48 u49 u50 u51 u52 u53 u54 u55 u56 u57 u58 u59 u60 u61 u62 u63 u64 u65 u66 u67 u68 u69 u70 u71 u72 u73 u74 u75 u76 u77 u78 u79 u80 u81 u82 u83 u84 u85 u86 u87 u88 u89 u90 u91 u92 u93 u94 u95 u96 u97 u98 u99 u100 u101 u102 u103 u104 u105 u106 u107 u108 u109 u110 u111 u112 u113 u114 u115 u116 u117 u118 u119 u120 u121 u122 u123 u124 u125 u126 u127 u128 u129 u130 u131 u132 u133 u134 u135 u136 u137 u138 u139 u140 u141 u142 u143 u144 u145 u146 u147 u148 u149 u150 u151 u152 u153 u154 u155 u156 u157 u158 u159 u160 u161 u162 u163 u164 u165 u166 u167 u168 u169 u170 u171 u172 u173 u174 u175 u176 u177 u178 u179 u180 u181 u182 u183 u184 u185 u186 u187 u188 u189 u190 u191 u192 u193 u194 u195 u196 u197 u198 u199 u200 u201 u202 u203 u204 u205 u206 u207 u208 u209 u210 u211 u212 u213 u214 u215 u216 u217 u218 u219 u220 u221 u222 u223 u224 u225 u226 u227 u228 u229 u230 u231 K1 K2 k1 k2
  · exact from17_4 s b fr to n K X Y P M C RV MV W DVh KM0 KP0 hb40 hbm hMV lo hb w5 I u10 u11 u12 u13 u14 u15 u16 u17 u18 u19 u20 u21 u22 u23 u24 u25 u26 u27 u28 u29 u30 u31 u32 u33 u34 u35 u36 u37 u38 u39 u40 u41 u42 u43 u44 u45 u46 u47 u48 u49 u50 u51 u52 u53 u54 u55 u56 u57 u58 u59 u60 u61 u62 u63 u64 u65 u66 u67 u68 u69 u70 u71 u72 u73 u74 u75 u76 u77 u78 u79 u80 u81 u82 u83 u84 u85 u86 u87 u88 u89 u90 u91 u92 u93 u94 u95 u96 u97 u98 u99 u100 u101 u102 u103 u104 u105 u106 u107 u108 u109 u110 u111 u112 u113 u114 u115 u116 u117 u118 u119 u120 u121 u122 u123 u124 u125 u126 u127 u128 u129 u130 u131 u132 u133 u134 u135 u136 u137 u138 u139 u140 u141 u142 u143 u144 u145 u146 u147 u148 u149 u150 u151 u152 u153 u154 u155 u156 u157 u158 u159 u160 u161 u162 u163 u164 u165 u166 u167 u168 u169 u170 u171 u172 u173 u174 u175 u176 u177 u178 u179 u180 u181 u182 u183 u184 u185 u186 u187 u188 u189 u190 u191 u192 u193 u194 u195 u196 u197 u198 u199 u200 u201 u202 u203 u204 u205 u206 u207 u208 u209 u210 u211 u212 u213 u214 u215 u216 u217 u218 u219 u220 u221 u222 u223 u224 u225 u226 u227 u228 u229 u230 u231 K1 K2 k1 k2
  · exact from17_8 s b fr to n K X Y P M C RV MV W DVh KM0 KP0 hb40 hbm hMV lo hb w5 I u10 u11 u12 u13 u14 u15 u16 u17 u18 u19 u20 u21 u22 u23 u24 u25 u26 u27 u28 u29 u30 u31 u32 u33 u34 u35 u36 u37 u38 u39 u40 u41 u42 u43 u44 u45 u46 u47 u48 u49 u50 u51 u52 u53 u54 u55 u56 u57 u58 u59 u60 u61 u62 u63 u64 u65 u66 u67 u68 u69 u70 u71 u72 u73 u74 u75 u76 u77 u78 u79 u80 u81 u82 u83 u84 u85 u86 u87 u88 u89 u90 u91 u92 u93 u94 u95 u96 u97 u98 u99 u100 u101 u102 u103 u104 u105 u106 u107 u108 u109 u110 u111 u112 u113 u114 u115 u116 u117 u118 u119 u120 u121 u122 u123 u124 u125 u126 u127 u128 u129 u130 u131 u132 u133 u134 u135 u136 u137 u138 u139 u140 u141 u142 u143 u144 u145 u146 u147 u148 u149 u150 u151 u152 u153 u154 u155 u156 u157 u158 u159 u160 u161 u162 u163 u164 u165 u166 u167 u168 u169 u170 u171 u172 u173 u174 u175 u176 u177 u178 u179 u180 u181 u182 u183 u184 u185 u186 u187 u188 u189 u190 u191 u192 u193 u194 u195 u196 u197 u198 u199 u200 u201 u202 u203 u204 u205 u206 u207 u208 u209 u210 u211 u212 u213 u214 u215 u216 u217 u218 u219 u220 u221 u222 u223 u224 u225 u226 u227 u228 u229 u230 u231 K1 K2 k1 k2
  · exact from17_16 s b fr to n K X Y P M C RV MV W DVh KM0 KP0 hb40 hbm hMV lo hb w5 I u10 u11 u12 u13 u14 u15 u16 u17 u18 u19 u20 u21 u22 u23 u24 u25 u26 u27 u28 u29 u30 u31 u32 u33 u34 u35 u36 u37 u38 u39 u40 u41 u42 u43 u44 u45 u46 u47 u48 u49 u50 u51 u52 u53 u54 u55 u56 u57 u58 u59 u60 u61 u62 u63 u64 u65 u66 u67 u68 u69 u70 u71 u72 u73 u74 u75 u76 u77 u78 u79 u80 u81 u82 u83 u84 u85 u86 u87 u88 u89 u90 u91 u92 u93 u94 u95 u96 u97 u98 u99 u100 u101 u102 u103 u104 u105 u106 u107 u108 u109 u110 u111 u112 u113 u114 u115 u116 u117 u118 u119 u120 u121 u122 u123 u124 u125 u126 u127 u128 u129 u130 u131 u132 u133 u134 u135 u136 u137 u138 u139 u140 u141 u142 u143 u144 u145 u146 u147 u148 u149 u150 u151 u152 u153 u154 u155 u156 u157 u158 u159 u160 u161 u162 u163 u164 u165 u166 u167 u168 u169 u170 u171 u172 u173 u174 u175 u176 u177 u178 u179 u180 u181 u182 u183 u184 u185 u186 u187 u188 u189 u190 u191 u192 u193 u194 u195 u196 u197 u198 u199 u200 u201 u202 u203 u204 u205 u206 u207 u208 u209 u210 u211 u212 u213 u214 u215 u216 u217 u218 u219 u220 u221 u222 u223 u224 u225 u226 u227 u228 u229 u230 u231 K1 K2 k1 k2
  · exact from17_24 s b fr to n K X Y P M C RV MV W DVh KM0 KP0 hb40 hbm hMV lo hb w5 I u10 u11 u12 u13 u14 u15 u16 u17 u18 u19 u20 u21 u22 u23 u24 u25 u26 u27 u28 u29 u30 u31 u32 u33 u34 u35 u36 u37 u38 u39 u40 u41 u42 u43 u44 u45 u46 u47 u48 u49 u50 u51 u52 u53 u54 u55 u56 u57 u58 u59 u60 u61 u62 u63 u64 u65 u66 u67 u68 u69 u70 u71 u72 u73 u74 u75 u76 u77 u78 u79 u80 u81 u82 u83 u84 u85 u86 u87 u88 u89 u90 u91 u92 u93 u94 u95 u96 u97 u98 u99 u100 u101 u102 u103 u104 u105 u106 u107 u108 u109 u110 u111 u112 u113 u114 u115 u116 u117 u118 u119 u120 u121 u122 u123 u124 u125 u126 u127 u128 u129 u130 u131 u132 u133 u134 u135 u136 u137 u138 u139 u140 u141 u142 u143 u144 u145 u146 u147 u148 u149 u150 u151 u152 u153 u154 u155 u156 u157 u158 u159 u160 u161 u162 u163 u164 u165 u166 u167 u168 u169 u170 u171 u172 u173 u174 u175 u176 u177 u178 u179 u180 u181 u182 u183 u184 u185 u186 u187 u188 u189 u190 u191 u192 u193 u194 u195 u196 u197 u198 u199 u200 u201 u202 u203 u204 u205 u206 u207 u208 u209 u210 u211 u212 u213 u214 u215 u216 u217 u218 u219 u220 u221 u222 u223 u224 u225 u226 u227 u228 u229 u230 u231 K1 K2 k1 k2
  · exact from17_32 s b fr to n K X Y P M C RV MV W DVh KM0 KP0 hb40 hbm hMV lo hb w5 I u10 u11 u12 u13 u14 u15 u16 u17 u18 u19 u20 u21 u22 u23 u24 u25 u26 u27 u28 u29 u30 u31 u32 u33 u34 u35 u36 u37 u38 u39 u40 u41 u42 u43 u44 u45 u46 u47 u48 u49 u50 u51 u52 u53 u54 u55 u56 u57 u58 u59 u60 u61 u62 u63 u64 u65 u66 u67 u68 u69 u70 u71 u72 u73 u74 u75 u76 u77 u78 u79 u80 u81 u82 u83 u84 u85 u86 u87 u88 u89 u90 u91 u92 u93 u94 u95 u96 u97 u98 u99 u100 u101 u102 u103 u104 u105 u106 u107 u108 u109 u110 u111 u112 u113 u114 u115 u116 u117 u118 u119 u120 u121 u122 u123 u124 u125 u126 u127 u128 u129 u130 u131 u132 u133 u134 u135 u136 u137 u138 u139 u140 u141 u142 u143 u144 u145 u146 u147 u148 u149 u150 u151 u152 u153 u154 u155 u156 u157 u158 u159 u160 u161 u162 u163 u164 u165 u166 u167 u168 u169 u170 u171 u172 u173 u174 u175 u176 u177 u178 u179 u180 u181 u182 u183 u184 u185 u186 u187 u188 u189 u190 u191 u192 u193 u194 u195 u196 u197 u198 u199 u200 u201 u202 u203 u204 u205 u206 u207 u208 u209 u210 u211 u212 u213 u214 u215 u216 u217 u218 u219 u220 u221 u222 u223 u224 u225 u226 u227 u228 u229 u230 u231 K1 K2 k1 k2

end Go.Proofs.YtikjfmpdfeaooaaDoor.Dh

/- The document's Read of a long head: from test 16 of its body on (written by wip/gen/di2.py). -/
namespace Go.Proofs.YtikjfmpdfeaooaaDoor.Dh
open Go.ChangeShapes Go.WideShapes Go.ChangeAt Go.RowKit
open Go.Proofs.YtikjfmpdfeaooaaDoor.Le Go.Proofs.YtikjfmpdfeaooaaDoor.Sr Go.Proofs.YtikjfmpdfeaooaaDoor.Ma
set_option linter.unusedVariables false

set_option maxRecDepth 100000 in
set_option maxHeartbeats 16000000 in
theorem from16 (s b : ByteArray) (fr to n K : Nat) (X Y P D M C : Int) (RV MV : Array Value) (W : World) (DVh : DV fr n K X Y P D M C RV MV) (KM0 : ∀ u, Calls Tryd.prog 35 #[.string s, .agg #[.int .i64 (n : Nat), .int .i64 X, .int .i64 (fa Y), .bool (decide (Y < 0)), .int .i64 D, .int .i64 M, .int .i64 (clrC D C), .int .i64 0, .int .i64 0, .int .i64 0, .int .i64 0, .int .i64 (fr : Nat), .int .i64 ((fr + n : Nat)), .int .i64 0, .int .i64 0], .int .i64 (to : Nat)] u fun e w' => e = .returned (.agg MV) ∧ u.grownBy w' none) (KP0 : ∀ u, Calls Tryd.prog 29 #[.string (b.extract 12 (12 + 2))] u fun e w' => e = .returned (.int .i64 P) ∧ u = w') (hb40 : 40 ≤ b.size) (hbm : b.size ≤ 9223372036854775807) (hMV : MVis MV) (lo : 8 ≤ K) (hb : Nat) (w5 : World) (I : DI W hb #[.int .i64 (n : Nat), .int .i64 X, .int .i64 (fa Y), .bool (decide (Y < 0)), .int .i64 D, .int .i64 M, .int .i64 C, .int .i64 0, .int .i64 0, .int .i64 0, .int .i64 0, .int .i64 (fr : Nat), .int .i64 ((fr + n : Nat)), .int .i64 0, .int .i64 0] w5) 
    (u10 u11 u12 u13 u14 u15 u16 u17 u18 u19 u20 u21 u22 u23 u24 u25 u26 u27 u28 u29 u30 u31 u32 u33 u34 u35 u36 u37 u38 u39 u40 u41 u42 u43 u44 u45 u46 u47 u48 u49 u50 u51 u52 u53 u54 u55 u56 u57 u58 u59 u60 u61 u62 u63 u64 u65 u66 u67 u68 u69 u70 u71 u72 u73 u74 u75 u76 u77 u78 u79 u80 u81 u82 u83 u84 u85 u86 u87 u88 u89 u90 u91 u92 u93 u94 u95 u96 u97 u98 u99 u100 u101 u102 u103 u104 u105 u106 u107 u108 u109 u110 u111 u112 u113 u114 u115 u116 u117 u118 u119 u120 u121 u122 u123 u124 u125 u126 u127 u128 u129 u130 u131 u132 u133 u134 u135 u136 u137 u138 u139 u140 u141 u142 u143 u144 u145 u146 u147 u148 u149 u150 u151 u152 u153 u154 u155 u156 u157 u158 u159 u160 u161 u162 u163 u164 u165 u166 u167 u168 u169 u170 u171 u172 u173 u174 u175 u176 u177 u178 u179 u180 u181 u182 u183 u184 u185 u186 u187 u188 u189 u190 u191 u192 u193 u194 u195 u196 u197 u198 u199 u200 u201 u202 u203 u204 u205 u206 u207 u208 u209 u210 u211 u212 u213 u214 u215 u216 u217 u218 u219 u220 u221 u222 u223 u224 u225 u226 u227 u228 u229 u230 u231 : Value) (K1 K2 : Act → World → Prop) (k1 : ∀ a w, Code.wp Tryd.prog (tl7 (hd7 (tl7 (tl7 (tl7 (tl7 (tl7 (tl7 (tl7 (tl7 (tl7 (tl7 (tl7 (tl7 (tl7 (tl7 (tl7 (tl7 (bd20))))))))))))))))))) (Exit.then K2 (bodyPost Tryd.prog Tryd.f11 (fun e w' => e = .returned (.agg RV) ∧ W.grownBy w' none))) a w → K1 a w) (k2 : ∀ a w, Code.wp Tryd.prog (tl7 (tl7 (tl7 (tl7 (tl7 (tl7 (tl7 (tl7 (tl7 (tl7 (tl7 (tl7 (tl7 (tl7 (tl7 (tl7 (tl7 (bd20)))))))))))))))))) (bodyPost Tryd.prog Tryd.f11 (fun e w' => e = .returned (.agg RV) ∧ W.grownBy w' none)) a w → K2 a w) :
    Code.wp Tryd.prog (hd7 (hd7 (tl7 (tl7 (tl7 (tl7 (tl7 (tl7 (tl7 (tl7 (tl7 (tl7 (tl7 (tl7 (tl7 (tl7 (tl7 (tl7 (bd20))))))))))))))))))) (Exit.then K1 (Exit.then K2 (bodyPost Tryd.prog Tryd.f11 (fun e w' => e = .returned (.agg RV) ∧ W.grownBy w' none)))) { tmps := #[.string s, .int .i64 (fr : Nat), .int .i64 (to : Nat), undef, undef, undef, .pointer (some ⟨W.heap.size, 0, none⟩), .int .i64 (n : Nat), .string b, .pointer (some ⟨hb, 0, none⟩), u10, u11, u12, u13, u14, u15, u16, u17, u18, u19, u20, u21, u22, u23, u24, u25, u26, u27, u28, u29, u30, u31, u32, u33, u34, u35, u36, u37, u38, u39, u40, u41, u42, u43, u44, u45, u46, u47, u48, u49, u50, u51, u52, u53, u54, u55, u56, u57, u58, u59, u60, u61, u62, u63, u64, u65, u66, u67, u68, u69, u70, u71, u72, u73, u74, u75, u76, u77, u78, u79, u80, u81, u82, u83, u84, u85, u86, u87, u88, u89, u90, u91, u92, u93, u94, u95, u96, u97, u98, u99, u100, u101, u102, u103, u104, u105, u106, u107, u108, u109, u110, u111, u112, u113, u114, u115, u116, u117, u118, u119, u120, u121, u122, u123, u124, u125, u126, u127, u128, u129, u130, u131, u132, u133, u134, u135, u136, u137, u138, u139, u140, u141, u142, u143, u144, u145, u146, u147, u148, u149, u150, u151, u152, u153, u154, u155, u156, u157, u158, u159, u160, u161, u162, u163, u164, u165, u166, u167, u168, u169, u170, u171, u172, u173, u174, u175, u176, u177, u178, u179, u180, u181, u182, u183, u184, u185, u186, u187, u188, u189, u190, u191, u192, u193, u194, u195, u196, u197, u198, u199, u200, u201, u202, u203, u204, u205, u206, u207, u208, u209, u210, u211, u212, u213, u214, u215, u216, u217, u218, u219, u220, u221, u222, u223, u224, u225, u226, u227, u228, u229, u230, u231], defers := [] } w5 := by
  have HV := Lib.hid DVh
  have KM := Lib.hid KM0
  have KP := Lib.hid KP0
  have HB40 := Lib.hid (And.intro hb40 hbm)
  have HLO := Lib.hid lo
  have HMV := Lib.hid hMV
  clear hMV
  have ne1 : W.heap.size ≠ hb := by have := I.lt; omega
  have ne2 : hb ≠ W.heap.size := by have := I.lt; omega
  have HI := Lib.hid I
  have hfr := DVh.fle
  have hnl := DVh.nle
  clear DVh KM0 KP0 lo hb40 hbm
  conv => arg 2; whnf
  conv => arg 4; dsimp only
  conv at k1 => enter [a, w, 1, 2]; whnf
  conv at k2 => enter [a, w, 1, 2]; whnf
  have a0 := blk_cell I.hd 0
  have a1 := blk_cell I.hd 1
  have a2 := blk_cell I.hd 2
  have a3 := blk_cell I.hd 3
  have a4 := blk_cell I.hd 4
  have a5 := blk_cell I.hd 5
  have a6 := blk_cell I.hd 6
  have a7 := blk_cell I.hd 7
  have a8 := blk_cell I.hd 8
  have a9 := blk_cell I.hd 9
  have a10 := blk_cell I.hd 10
  have a11 := blk_cell I.hd 11
  have a12 := blk_cell I.hd 12
  have a13 := blk_cell I.hd 13
  have a14 := blk_cell I.hd 14
  simp only [List.getElem?_toArray, List.getElem?_cons_succ, List.getElem?_cons_zero] at a0 a1 a2 a3 a4 a5 a6 a7 a8 a9 a10 a11 a12 a13 a14
  have hlx := blk_lt I.hd
  clear I
  by_cases hKk : K = 8
  · have hy := HV.out.f.yes (by omega)
    rw [hKk] at hy
    have hy2 : (pkH M && decide (Y < 0)) = true := hy
    rw [Bool.and_eq_true] at hy2
    have hm := of_decide_eq_true hy2.1
    have hY := of_decide_eq_true hy2.2
    have dY : decide (Y < 0) = true := decide_eq_true hY
    clear hy hy2
    rw [dY] at a3
    rcases hm with rfl | rfl
    · skip
      have E := Lib.hid (show RV = badA 2 ((fr : Int) + 8) from by rw [HV.out.bad 8 (by decide) hKk, show plD n 8 = 8 from if_neg (by have := HV.out.n12; omega)]; rfl)
      have KB := Lib.hid (fun u => rbad_calls 2 ((fr : Int) + 8) u)
      have hwp : IntKind.i64.wrap ((fr : Int) + 8) = (fr : Int) + 8 := IntWalk.i64_in _ (by omega)
      unfold badA at KB
      go_wp2_with fail

      

      refine (KB.out _).mono ?_
      rintro e w9 ⟨rfl, g9⟩
      have B9 := old0 g9 HI.out.res (blk_lt HI.out.res) (by simp)
      have r0 := blk_cell B9 0
      have r1 := blk_cell B9 1
      have r2 := blk_cell B9 2
      have r3 := blk_cell B9 3
      have r4 := blk_cell B9 4
      have r5 := blk_cell B9 5
      have r6 := blk_cell B9 6
      have r7 := blk_cell B9 7
      have r8 := blk_cell B9 8
      have r9 := blk_cell B9 9
      have r10 := blk_cell B9 10
      have r11 := blk_cell B9 11
      have r12 := blk_cell B9 12
      have r13 := blk_cell B9 13
      have r14 := blk_cell B9 14
      have rf0 := blk_free B9 0
      have rf1 := blk_free B9 1
      have rf2 := blk_free B9 2
      have rf3 := blk_free B9 3
      have rf4 := blk_free B9 4
      have rf5 := blk_free B9 5
      have rf6 := blk_free B9 6
      have rf7 := blk_free B9 7
      have rf8 := blk_free B9 8
      have rf9 := blk_free B9 9
      have rf10 := blk_free B9 10
      have rf11 := blk_free B9 11
      have rf12 := blk_free B9 12
      have rf13 := blk_free B9 13
      have rf14 := blk_free B9 14
      simp only [List.getElem?_toArray, List.getElem?_cons_succ, List.getElem?_cons_zero] at r0 r1 r2 r3 r4 r5 r6 r7 r8 r9 r10 r11 r12 r13 r14
      have hlr := blk_lt B9
      have G9 := Lib.hid (gb_trans HI.out.gb g9)
      clear g9 B9 KB
      go_wp2
      refine bodyPost_ret (v := .agg (badA 2 ((fr : Int) + 8))) (by simp only [results, Tryd.results11, badA]; go_simp) rfl ⟨by rw [E.out], ?_⟩
      exact gb_own (gb_own (gb_own (gb_own (gb_own (gb_own (gb_own (gb_own (gb_own (gb_own (gb_own (gb_own (gb_own (gb_own (gb_own (G9.out) (Nat.le_refl _) (gb_set _ _ _ _)) (Nat.le_refl _) (gb_set _ _ _ _)) (Nat.le_refl _) (gb_set _ _ _ _)) (Nat.le_refl _) (gb_set _ _ _ _)) (Nat.le_refl _) (gb_set _ _ _ _)) (Nat.le_refl _) (gb_set _ _ _ _)) (Nat.le_refl _) (gb_set _ _ _ _)) (Nat.le_refl _) (gb_set _ _ _ _)) (Nat.le_refl _) (gb_set _ _ _ _)) (Nat.le_refl _) (gb_set _ _ _ _)) (Nat.le_refl _) (gb_set _ _ _ _)) (Nat.le_refl _) (gb_set _ _ _ _)) (Nat.le_refl _) (gb_set _ _ _ _)) (Nat.le_refl _) (gb_set _ _ _ _)) (Nat.le_refl _) (gb_set _ _ _ _)
    · skip
      have E := Lib.hid (show RV = badA 2 ((fr : Int) + 8) from by rw [HV.out.bad 8 (by decide) hKk, show plD n 8 = 8 from if_neg (by have := HV.out.n12; omega)]; rfl)
      have KB := Lib.hid (fun u => rbad_calls 2 ((fr : Int) + 8) u)
      have hwp : IntKind.i64.wrap ((fr : Int) + 8) = (fr : Int) + 8 := IntWalk.i64_in _ (by omega)
      unfold badA at KB
      go_wp2_with fail

      

      refine (KB.out _).mono ?_
      rintro e w9 ⟨rfl, g9⟩
      have B9 := old0 g9 HI.out.res (blk_lt HI.out.res) (by simp)
      have r0 := blk_cell B9 0
      have r1 := blk_cell B9 1
      have r2 := blk_cell B9 2
      have r3 := blk_cell B9 3
      have r4 := blk_cell B9 4
      have r5 := blk_cell B9 5
      have r6 := blk_cell B9 6
      have r7 := blk_cell B9 7
      have r8 := blk_cell B9 8
      have r9 := blk_cell B9 9
      have r10 := blk_cell B9 10
      have r11 := blk_cell B9 11
      have r12 := blk_cell B9 12
      have r13 := blk_cell B9 13
      have r14 := blk_cell B9 14
      have rf0 := blk_free B9 0
      have rf1 := blk_free B9 1
      have rf2 := blk_free B9 2
      have rf3 := blk_free B9 3
      have rf4 := blk_free B9 4
      have rf5 := blk_free B9 5
      have rf6 := blk_free B9 6
      have rf7 := blk_free B9 7
      have rf8 := blk_free B9 8
      have rf9 := blk_free B9 9
      have rf10 := blk_free B9 10
      have rf11 := blk_free B9 11
      have rf12 := blk_free B9 12
      have rf13 := blk_free B9 13
      have rf14 := blk_free B9 14
      simp only [List.getElem?_toArray, List.getElem?_cons_succ, List.getElem?_cons_zero] at r0 r1 r2 r3 r4 r5 r6 r7 r8 r9 r10 r11 r12 r13 r14
      have hlr := blk_lt B9
      have G9 := Lib.hid (gb_trans HI.out.gb g9)
      clear g9 B9 KB
      go_wp2
      refine bodyPost_ret (v := .agg (badA 2 ((fr : Int) + 8))) (by simp only [results, Tryd.results11, badA]; go_simp) rfl ⟨by rw [E.out], ?_⟩
      exact gb_own (gb_own (gb_own (gb_own (gb_own (gb_own (gb_own (gb_own (gb_own (gb_own (gb_own (gb_own (gb_own (gb_own (gb_own (G9.out) (Nat.le_refl _) (gb_set _ _ _ _)) (Nat.le_refl _) (gb_set _ _ _ _)) (Nat.le_refl _) (gb_set _ _ _ _)) (Nat.le_refl _) (gb_set _ _ _ _)) (Nat.le_refl _) (gb_set _ _ _ _)) (Nat.le_refl _) (gb_set _ _ _ _)) (Nat.le_refl _) (gb_set _ _ _ _)) (Nat.le_refl _) (gb_set _ _ _ _)) (Nat.le_refl _) (gb_set _ _ _ _)) (Nat.le_refl _) (gb_set _ _ _ _)) (Nat.le_refl _) (gb_set _ _ _ _)) (Nat.le_refl _) (gb_set _ _ _ _)) (Nat.le_refl _) (gb_set _ _ _ _)) (Nat.le_refl _) (gb_set _ _ _ _)) (Nat.le_refl _) (gb_set _ _ _ _)
  · have hy := HV.out.f.no 8 (by have h1 := HLO.out; omega)
    have hy2 : (pkH M && decide (Y < 0)) = false := hy
    clear hy
    have hK9 : 9 ≤ K := by have h1 := HLO.out; omega
    have hk9 := Lib.hid hK9
    clear hKk hK9
    by_cases hY : Y < 0
    · have dY : decide (Y < 0) = true := decide_eq_true hY
      rw [dY, Bool.and_true] at hy2
      have hm := of_decide_eq_false hy2
      have m1 : (M == 1) = false := by rw [beq_eq_false_iff_ne]; omega
      have m2 : (M == 2) = false := by rw [beq_eq_false_iff_ne]; omega
      rw [dY] at a3
      clear hy2 hm hY dY
      go_upto_region 31 with fail
      exact from17 s b fr to n K X Y P D M C RV MV W HV.out KM.out KP.out HB40.out.1 HB40.out.2 HMV.out hk9.out hb _ HI.out _ _ _ _ _ _ _ _ _ _ _ _ _ _ _ _ _ _ _ _ _ _ _ _ _ _ _ _ _ _ _ _ _ _ _ _ _ _ _ _ _ _ _ _ _ _ _ _ _ _ _ _ _ _ _ _ _ _ _ _ _ _ _ _ _ _ _ _ _ _ _ _ _ _ _ _ _ _ _ _ _ _ _ _ _ _ _ _ _ _ _ _ _ _ _ _ _ _ _ _ _ _ _ _ _ _ _ _ _ _ _ _ _ _ _ _ _ _ _ _ _ _ _ _ _ _ _ _ _ _ _ _ _ _ _ _ _ _ _ _ _ _ _ _ _ _ _ _ _ _ _ _ _ _ _ _ _ _ _ _ _ _ _ _ _ _ _ _ _ _ _ _ _ _ _ _ _ _ _ _ _ _ _ _ _ _ _ _ _ _ _ _ _ _ _ _ _ _ _ _ _ _ _ _ _ _ _ _ _ _ _ _ _ _ _ _ _ _ _ _ _ _ _ _ (by assumption) (by assumption)
    · have dY : decide (Y < 0) = false := decide_eq_false hY
      rw [dY] at a3
      clear hy2 hY dY
      go_upto_region 31 with fail
      exact from17 s b fr to n K X Y P D M C RV MV W HV.out KM.out KP.out HB40.out.1 HB40.out.2 HMV.out hk9.out hb _ HI.out _ _ _ _ _ _ _ _ _ _ _ _ _ _ _ _ _ _ _ _ _ _ _ _ _ _ _ _ _ _ _ _ _ _ _ _ _ _ _ _ _ _ _ _ _ _ _ _ _ _ _ _ _ _ _ _ _ _ _ _ _ _ _ _ _ _ _ _ _ _ _ _ _ _ _ _ _ _ _ _ _ _ _ _ _ _ _ _ _ _ _ _ _ _ _ _ _ _ _ _ _ _ _ _ _ _ _ _ _ _ _ _ _ _ _ _ _ _ _ _ _ _ _ _ _ _ _ _ _ _ _ _ _ _ _ _ _ _ _ _ _ _ _ _ _ _ _ _ _ _ _ _ _ _ _ _ _ _ _ _ _ _ _ _ _ _ _ _ _ _ _ _ _ _ _ _ _ _ _ _ _ _ _ _ _ _ _ _ _ _ _ _ _ _ _ _ _ _ _ _ _ _ _ _ _ _ _ _ _ _ _ _ _ _ _ _ _ _ _ _ _ _ _ _ (by assumption) (by assumption)

end Go.Proofs.YtikjfmpdfeaooaaDoor.Dh

/- The document's Read of a long head: from test 15 of its body on (written by wip/gen/di2.py). -/
namespace Go.Proofs.YtikjfmpdfeaooaaDoor.Dh
open Go.ChangeShapes Go.WideShapes Go.ChangeAt Go.RowKit
open Go.Proofs.YtikjfmpdfeaooaaDoor.Le Go.Proofs.YtikjfmpdfeaooaaDoor.Sr Go.Proofs.YtikjfmpdfeaooaaDoor.Ma
set_option linter.unusedVariables false

set_option maxRecDepth 100000 in
set_option maxHeartbeats 16000000 in
theorem from15 (s b : ByteArray) (fr to n K : Nat) (X Y P D M C : Int) (RV MV : Array Value) (W : World) (DVh : DV fr n K X Y P D M C RV MV) (KM0 : ∀ u, Calls Tryd.prog 35 #[.string s, .agg #[.int .i64 (n : Nat), .int .i64 X, .int .i64 (fa Y), .bool (decide (Y < 0)), .int .i64 D, .int .i64 M, .int .i64 (clrC D C), .int .i64 0, .int .i64 0, .int .i64 0, .int .i64 0, .int .i64 (fr : Nat), .int .i64 ((fr + n : Nat)), .int .i64 0, .int .i64 0], .int .i64 (to : Nat)] u fun e w' => e = .returned (.agg MV) ∧ u.grownBy w' none) (KP0 : ∀ u, Calls Tryd.prog 29 #[.string (b.extract 12 (12 + 2))] u fun e w' => e = .returned (.int .i64 P) ∧ u = w') (hb40 : 40 ≤ b.size) (hbm : b.size ≤ 9223372036854775807) (hMV : MVis MV) (lo : 7 ≤ K) (hb : Nat) (w5 : World) (I : DI W hb #[.int .i64 (n : Nat), .int .i64 X, .int .i64 (fa Y), .bool (decide (Y < 0)), .int .i64 D, .int .i64 M, .int .i64 C, .int .i64 0, .int .i64 0, .int .i64 0, .int .i64 0, .int .i64 (fr : Nat), .int .i64 ((fr + n : Nat)), .int .i64 0, .int .i64 0] w5) 
    (u10 u11 u12 u13 u14 u15 u16 u17 u18 u19 u20 u21 u22 u23 u24 u25 u26 u27 u28 u29 u30 u31 u32 u33 u34 u35 u36 u37 u38 u39 u40 u41 u42 u43 u44 u45 u46 u47 u48 u49 u50 u51 u52 u53 u54 u55 u56 u57 u58 u59 u60 u61 u62 u63 u64 u65 u66 u67 u68 u69 u70 u71 u72 u73 u74 u75 u76 u77 u78 u79 u80 u81 u82 u83 u84 u85 u86 u87 u88 u89 u90 u91 u92 u93 u94 u95 u96 u97 u98 u99 u100 u101 u102 u103 u104 u105 u106 u107 u108 u109 u110 u111 u112 u113 u114 u115 u116 u117 u118 u119 u120 u121 u122 u123 u124 u125 u126 u127 u128 u129 u130 u131 u132 u133 u134 u135 u136 u137 u138 u139 u140 u141 u142 u143 u144 u145 u146 u147 u148 u149 u150 u151 u152 u153 u154 u155 u156 u157 u158 u159 u160 u161 u162 u163 u164 u165 u166 u167 u168 u169 u170 u171 u172 u173 u174 u175 u176 u177 u178 u179 u180 u181 u182 u183 u184 u185 u186 u187 u188 u189 u190 u191 u192 u193 u194 u195 u196 u197 u198 u199 u200 u201 u202 u203 u204 u205 u206 u207 u208 u209 u210 u211 u212 u213 u214 u215 u216 u217 u218 u219 u220 u221 u222 u223 u224 u225 u226 u227 u228 u229 u230 u231 : Value) (K1 K2 : Act → World → Prop) (k1 : ∀ a w, Code.wp Tryd.prog (tl7 (hd7 (tl7 (tl7 (tl7 (tl7 (tl7 (tl7 (tl7 (tl7 (tl7 (tl7 (tl7 (tl7 (tl7 (tl7 (tl7 (bd20)))))))))))))))))) (Exit.then K2 (bodyPost Tryd.prog Tryd.f11 (fun e w' => e = .returned (.agg RV) ∧ W.grownBy w' none))) a w → K1 a w) (k2 : ∀ a w, Code.wp Tryd.prog (tl7 (tl7 (tl7 (tl7 (tl7 (tl7 (tl7 (tl7 (tl7 (tl7 (tl7 (tl7 (tl7 (tl7 (tl7 (tl7 (bd20))))))))))))))))) (bodyPost Tryd.prog Tryd.f11 (fun e w' => e = .returned (.agg RV) ∧ W.grownBy w' none)) a w → K2 a w) :
    Code.wp Tryd.prog (hd7 (hd7 (tl7 (tl7 (tl7 (tl7 (tl7 (tl7 (tl7 (tl7 (tl7 (tl7 (tl7 (tl7 (tl7 (tl7 (tl7 (bd20)))))))))))))))))) (Exit.then K1 (Exit.then K2 (bodyPost Tryd.prog Tryd.f11 (fun e w' => e = .returned (.agg RV) ∧ W.grownBy w' none)))) { tmps := #[.string s, .int .i64 (fr : Nat), .int .i64 (to : Nat), undef, undef, undef, .pointer (some ⟨W.heap.size, 0, none⟩), .int .i64 (n : Nat), .string b, .pointer (some ⟨hb, 0, none⟩), u10, u11, u12, u13, u14, u15, u16, u17, u18, u19, u20, u21, u22, u23, u24, u25, u26, u27, u28, u29, u30, u31, u32, u33, u34, u35, u36, u37, u38, u39, u40, u41, u42, u43, u44, u45, u46, u47, u48, u49, u50, u51, u52, u53, u54, u55, u56, u57, u58, u59, u60, u61, u62, u63, u64, u65, u66, u67, u68, u69, u70, u71, u72, u73, u74, u75, u76, u77, u78, u79, u80, u81, u82, u83, u84, u85, u86, u87, u88, u89, u90, u91, u92, u93, u94, u95, u96, u97, u98, u99, u100, u101, u102, u103, u104, u105, u106, u107, u108, u109, u110, u111, u112, u113, u114, u115, u116, u117, u118, u119, u120, u121, u122, u123, u124, u125, u126, u127, u128, u129, u130, u131, u132, u133, u134, u135, u136, u137, u138, u139, u140, u141, u142, u143, u144, u145, u146, u147, u148, u149, u150, u151, u152, u153, u154, u155, u156, u157, u158, u159, u160, u161, u162, u163, u164, u165, u166, u167, u168, u169, u170, u171, u172, u173, u174, u175, u176, u177, u178, u179, u180, u181, u182, u183, u184, u185, u186, u187, u188, u189, u190, u191, u192, u193, u194, u195, u196, u197, u198, u199, u200, u201, u202, u203, u204, u205, u206, u207, u208, u209, u210, u211, u212, u213, u214, u215, u216, u217, u218, u219, u220, u221, u222, u223, u224, u225, u226, u227, u228, u229, u230, u231], defers := [] } w5 := by
  have HV := Lib.hid DVh
  have KM := Lib.hid KM0
  have KP := Lib.hid KP0
  have HB40 := Lib.hid (And.intro hb40 hbm)
  have HLO := Lib.hid lo
  have HMV := Lib.hid hMV
  clear hMV
  have ne1 : W.heap.size ≠ hb := by have := I.lt; omega
  have ne2 : hb ≠ W.heap.size := by have := I.lt; omega
  have HI := Lib.hid I
  have hfr := DVh.fle
  have hnl := DVh.nle
  clear DVh KM0 KP0 lo hb40 hbm
  conv => arg 2; whnf
  conv => arg 4; dsimp only
  conv at k1 => enter [a, w, 1, 2]; whnf
  conv at k2 => enter [a, w, 1, 2]; whnf
  have a0 := blk_cell I.hd 0
  have a1 := blk_cell I.hd 1
  have a2 := blk_cell I.hd 2
  have a3 := blk_cell I.hd 3
  have a4 := blk_cell I.hd 4
  have a5 := blk_cell I.hd 5
  have a6 := blk_cell I.hd 6
  have a7 := blk_cell I.hd 7
  have a8 := blk_cell I.hd 8
  have a9 := blk_cell I.hd 9
  have a10 := blk_cell I.hd 10
  have a11 := blk_cell I.hd 11
  have a12 := blk_cell I.hd 12
  have a13 := blk_cell I.hd 13
  have a14 := blk_cell I.hd 14
  simp only [List.getElem?_toArray, List.getElem?_cons_succ, List.getElem?_cons_zero] at a0 a1 a2 a3 a4 a5 a6 a7 a8 a9 a10 a11 a12 a13 a14
  have hlx := blk_lt I.hd
  clear I
  have hM3 : M ≤ 3 := by
    have h := HV.out.f.no 6 (by have h1 := HLO.out; omega)
    exact Int.not_lt.1 (of_decide_eq_false (show decide (3 < M) = false from h))
  have hM0 := HV.out.m0
  by_cases hKk : K = 7
  · have hy := HV.out.f.yes (by omega)
    rw [hKk] at hy
    have hy2 : (!(ftH M D)) = true := hy
    have hy3 := of_decide_eq_false (by simpa using hy2 : ftH M D = false)
    clear hy hy2
    obtain ⟨rfl, h1⟩ | ⟨rfl, h1⟩ | ⟨rfl, h1, h2⟩ : (M = 1 ∧ D ≠ 8) ∨ (M = 2 ∧ D ≠ 4) ∨ (M = 3 ∧ D ≠ 16 ∧ D ≠ 32) := by omega
    · have q1 : (D != 8) = true := by rw [bne_iff_ne]; exact h1
      have E := Lib.hid (show RV = badA 2 ((fr : Int) + 16) from HV.out.bad 7 (by decide) hKk)
      have KB := Lib.hid (fun u => rbad_calls 2 ((fr : Int) + 16) u)
      have hwp : IntKind.i64.wrap ((fr : Int) + 16) = (fr : Int) + 16 := IntWalk.i64_in _ (by omega)
      unfold badA at KB
      go_wp2_with fail

      

      refine (KB.out _).mono ?_
      rintro e w9 ⟨rfl, g9⟩
      have B9 := old0 g9 HI.out.res (blk_lt HI.out.res) (by simp)
      have r0 := blk_cell B9 0
      have r1 := blk_cell B9 1
      have r2 := blk_cell B9 2
      have r3 := blk_cell B9 3
      have r4 := blk_cell B9 4
      have r5 := blk_cell B9 5
      have r6 := blk_cell B9 6
      have r7 := blk_cell B9 7
      have r8 := blk_cell B9 8
      have r9 := blk_cell B9 9
      have r10 := blk_cell B9 10
      have r11 := blk_cell B9 11
      have r12 := blk_cell B9 12
      have r13 := blk_cell B9 13
      have r14 := blk_cell B9 14
      have rf0 := blk_free B9 0
      have rf1 := blk_free B9 1
      have rf2 := blk_free B9 2
      have rf3 := blk_free B9 3
      have rf4 := blk_free B9 4
      have rf5 := blk_free B9 5
      have rf6 := blk_free B9 6
      have rf7 := blk_free B9 7
      have rf8 := blk_free B9 8
      have rf9 := blk_free B9 9
      have rf10 := blk_free B9 10
      have rf11 := blk_free B9 11
      have rf12 := blk_free B9 12
      have rf13 := blk_free B9 13
      have rf14 := blk_free B9 14
      simp only [List.getElem?_toArray, List.getElem?_cons_succ, List.getElem?_cons_zero] at r0 r1 r2 r3 r4 r5 r6 r7 r8 r9 r10 r11 r12 r13 r14
      have hlr := blk_lt B9
      have G9 := Lib.hid (gb_trans HI.out.gb g9)
      clear g9 B9 KB
      go_wp2
      refine bodyPost_ret (v := .agg (badA 2 ((fr : Int) + 16))) (by simp only [results, Tryd.results11, badA]; go_simp) rfl ⟨by rw [E.out], ?_⟩
      exact gb_own (gb_own (gb_own (gb_own (gb_own (gb_own (gb_own (gb_own (gb_own (gb_own (gb_own (gb_own (gb_own (gb_own (gb_own (G9.out) (Nat.le_refl _) (gb_set _ _ _ _)) (Nat.le_refl _) (gb_set _ _ _ _)) (Nat.le_refl _) (gb_set _ _ _ _)) (Nat.le_refl _) (gb_set _ _ _ _)) (Nat.le_refl _) (gb_set _ _ _ _)) (Nat.le_refl _) (gb_set _ _ _ _)) (Nat.le_refl _) (gb_set _ _ _ _)) (Nat.le_refl _) (gb_set _ _ _ _)) (Nat.le_refl _) (gb_set _ _ _ _)) (Nat.le_refl _) (gb_set _ _ _ _)) (Nat.le_refl _) (gb_set _ _ _ _)) (Nat.le_refl _) (gb_set _ _ _ _)) (Nat.le_refl _) (gb_set _ _ _ _)) (Nat.le_refl _) (gb_set _ _ _ _)) (Nat.le_refl _) (gb_set _ _ _ _)
    · have q1 : (D != 4) = true := by rw [bne_iff_ne]; exact h1
      have E := Lib.hid (show RV = badA 2 ((fr : Int) + 16) from HV.out.bad 7 (by decide) hKk)
      have KB := Lib.hid (fun u => rbad_calls 2 ((fr : Int) + 16) u)
      have hwp : IntKind.i64.wrap ((fr : Int) + 16) = (fr : Int) + 16 := IntWalk.i64_in _ (by omega)
      unfold badA at KB
      go_wp2_with fail

      

      refine (KB.out _).mono ?_
      rintro e w9 ⟨rfl, g9⟩
      have B9 := old0 g9 HI.out.res (blk_lt HI.out.res) (by simp)
      have r0 := blk_cell B9 0
      have r1 := blk_cell B9 1
      have r2 := blk_cell B9 2
      have r3 := blk_cell B9 3
      have r4 := blk_cell B9 4
      have r5 := blk_cell B9 5
      have r6 := blk_cell B9 6
      have r7 := blk_cell B9 7
      have r8 := blk_cell B9 8
      have r9 := blk_cell B9 9
      have r10 := blk_cell B9 10
      have r11 := blk_cell B9 11
      have r12 := blk_cell B9 12
      have r13 := blk_cell B9 13
      have r14 := blk_cell B9 14
      have rf0 := blk_free B9 0
      have rf1 := blk_free B9 1
      have rf2 := blk_free B9 2
      have rf3 := blk_free B9 3
      have rf4 := blk_free B9 4
      have rf5 := blk_free B9 5
      have rf6 := blk_free B9 6
      have rf7 := blk_free B9 7
      have rf8 := blk_free B9 8
      have rf9 := blk_free B9 9
      have rf10 := blk_free B9 10
      have rf11 := blk_free B9 11
      have rf12 := blk_free B9 12
      have rf13 := blk_free B9 13
      have rf14 := blk_free B9 14
      simp only [List.getElem?_toArray, List.getElem?_cons_succ, List.getElem?_cons_zero] at r0 r1 r2 r3 r4 r5 r6 r7 r8 r9 r10 r11 r12 r13 r14
      have hlr := blk_lt B9
      have G9 := Lib.hid (gb_trans HI.out.gb g9)
      clear g9 B9 KB
      go_wp2
      refine bodyPost_ret (v := .agg (badA 2 ((fr : Int) + 16))) (by simp only [results, Tryd.results11, badA]; go_simp) rfl ⟨by rw [E.out], ?_⟩
      exact gb_own (gb_own (gb_own (gb_own (gb_own (gb_own (gb_own (gb_own (gb_own (gb_own (gb_own (gb_own (gb_own (gb_own (gb_own (G9.out) (Nat.le_refl _) (gb_set _ _ _ _)) (Nat.le_refl _) (gb_set _ _ _ _)) (Nat.le_refl _) (gb_set _ _ _ _)) (Nat.le_refl _) (gb_set _ _ _ _)) (Nat.le_refl _) (gb_set _ _ _ _)) (Nat.le_refl _) (gb_set _ _ _ _)) (Nat.le_refl _) (gb_set _ _ _ _)) (Nat.le_refl _) (gb_set _ _ _ _)) (Nat.le_refl _) (gb_set _ _ _ _)) (Nat.le_refl _) (gb_set _ _ _ _)) (Nat.le_refl _) (gb_set _ _ _ _)) (Nat.le_refl _) (gb_set _ _ _ _)) (Nat.le_refl _) (gb_set _ _ _ _)) (Nat.le_refl _) (gb_set _ _ _ _)) (Nat.le_refl _) (gb_set _ _ _ _)
    · have q1 : (D != 16) = true := by rw [bne_iff_ne]; exact h1
      have q2 : (D != 32) = true := by rw [bne_iff_ne]; exact h2
      have E := Lib.hid (show RV = badA 2 ((fr : Int) + 16) from HV.out.bad 7 (by decide) hKk)
      have KB := Lib.hid (fun u => rbad_calls 2 ((fr : Int) + 16) u)
      have hwp : IntKind.i64.wrap ((fr : Int) + 16) = (fr : Int) + 16 := IntWalk.i64_in _ (by omega)
      unfold badA at KB
      go_wp2_with fail

      

      refine (KB.out _).mono ?_
      rintro e w9 ⟨rfl, g9⟩
      have B9 := old0 g9 HI.out.res (blk_lt HI.out.res) (by simp)
      have r0 := blk_cell B9 0
      have r1 := blk_cell B9 1
      have r2 := blk_cell B9 2
      have r3 := blk_cell B9 3
      have r4 := blk_cell B9 4
      have r5 := blk_cell B9 5
      have r6 := blk_cell B9 6
      have r7 := blk_cell B9 7
      have r8 := blk_cell B9 8
      have r9 := blk_cell B9 9
      have r10 := blk_cell B9 10
      have r11 := blk_cell B9 11
      have r12 := blk_cell B9 12
      have r13 := blk_cell B9 13
      have r14 := blk_cell B9 14
      have rf0 := blk_free B9 0
      have rf1 := blk_free B9 1
      have rf2 := blk_free B9 2
      have rf3 := blk_free B9 3
      have rf4 := blk_free B9 4
      have rf5 := blk_free B9 5
      have rf6 := blk_free B9 6
      have rf7 := blk_free B9 7
      have rf8 := blk_free B9 8
      have rf9 := blk_free B9 9
      have rf10 := blk_free B9 10
      have rf11 := blk_free B9 11
      have rf12 := blk_free B9 12
      have rf13 := blk_free B9 13
      have rf14 := blk_free B9 14
      simp only [List.getElem?_toArray, List.getElem?_cons_succ, List.getElem?_cons_zero] at r0 r1 r2 r3 r4 r5 r6 r7 r8 r9 r10 r11 r12 r13 r14
      have hlr := blk_lt B9
      have G9 := Lib.hid (gb_trans HI.out.gb g9)
      clear g9 B9 KB
      go_wp2
      refine bodyPost_ret (v := .agg (badA 2 ((fr : Int) + 16))) (by simp only [results, Tryd.results11, badA]; go_simp) rfl ⟨by rw [E.out], ?_⟩
      exact gb_own (gb_own (gb_own (gb_own (gb_own (gb_own (gb_own (gb_own (gb_own (gb_own (gb_own (gb_own (gb_own (gb_own (gb_own (G9.out) (Nat.le_refl _) (gb_set _ _ _ _)) (Nat.le_refl _) (gb_set _ _ _ _)) (Nat.le_refl _) (gb_set _ _ _ _)) (Nat.le_refl _) (gb_set _ _ _ _)) (Nat.le_refl _) (gb_set _ _ _ _)) (Nat.le_refl _) (gb_set _ _ _ _)) (Nat.le_refl _) (gb_set _ _ _ _)) (Nat.le_refl _) (gb_set _ _ _ _)) (Nat.le_refl _) (gb_set _ _ _ _)) (Nat.le_refl _) (gb_set _ _ _ _)) (Nat.le_refl _) (gb_set _ _ _ _)) (Nat.le_refl _) (gb_set _ _ _ _)) (Nat.le_refl _) (gb_set _ _ _ _)) (Nat.le_refl _) (gb_set _ _ _ _)) (Nat.le_refl _) (gb_set _ _ _ _)
  · have hy := HV.out.f.no 7 (by have h1 := HLO.out; omega)
    have hy2 : (!(ftH M D)) = false := hy
    have hy3 := of_decide_eq_true (by simpa using hy2 : ftH M D = true)
    have hK8 : 8 ≤ K := by have h1 := HLO.out; omega
    have hk8 := Lib.hid hK8
    clear hy hy2 hKk hK8
    obtain rfl | ⟨rfl, rfl⟩ | ⟨rfl, rfl⟩ | ⟨rfl, rfl | rfl⟩ : M = 0 ∨ (M = 1 ∧ D = 8) ∨ (M = 2 ∧ D = 4) ∨ (M = 3 ∧ (D = 16 ∨ D = 32)) := by omega
    · clear hM3 hM0 hy3
      go_upto_region 29 with fail
      exact from16 s b fr to n K X Y P D 0 C RV MV W HV.out KM.out KP.out HB40.out.1 HB40.out.2 HMV.out hk8.out hb _ HI.out _ _ _ _ _ _ _ _ _ _ _ _ _ _ _ _ _ _ _ _ _ _ _ _ _ _ _ _ _ _ _ _ _ _ _ _ _ _ _ _ _ _ _ _ _ _ _ _ _ _ _ _ _ _ _ _ _ _ _ _ _ _ _ _ _ _ _ _ _ _ _ _ _ _ _ _ _ _ _ _ _ _ _ _ _ _ _ _ _ _ _ _ _ _ _ _ _ _ _ _ _ _ _ _ _ _ _ _ _ _ _ _ _ _ _ _ _ _ _ _ _ _ _ _ _ _ _ _ _ _ _ _ _ _ _ _ _ _ _ _ _ _ _ _ _ _ _ _ _ _ _ _ _ _ _ _ _ _ _ _ _ _ _ _ _ _ _ _ _ _ _ _ _ _ _ _ _ _ _ _ _ _ _ _ _ _ _ _ _ _ _ _ _ _ _ _ _ _ _ _ _ _ _ _ _ _ _ _ _ _ _ _ _ _ _ _ _ _ _ _ _ _ _ _ (by assumption) (by assumption)
    · clear hM3 hM0 hy3
      go_upto_region 29 with fail
      exact from16 s b fr to n K X Y P 8 1 C RV MV W HV.out KM.out KP.out HB40.out.1 HB40.out.2 HMV.out hk8.out hb _ HI.out _ _ _ _ _ _ _ _ _ _ _ _ _ _ _ _ _ _ _ _ _ _ _ _ _ _ _ _ _ _ _ _ _ _ _ _ _ _ _ _ _ _ _ _ _ _ _ _ _ _ _ _ _ _ _ _ _ _ _ _ _ _ _ _ _ _ _ _ _ _ _ _ _ _ _ _ _ _ _ _ _ _ _ _ _ _ _ _ _ _ _ _ _ _ _ _ _ _ _ _ _ _ _ _ _ _ _ _ _ _ _ _ _ _ _ _ _ _ _ _ _ _ _ _ _ _ _ _ _ _ _ _ _ _ _ _ _ _ _ _ _ _ _ _ _ _ _ _ _ _ _ _ _ _ _ _ _ _ _ _ _ _ _ _ _ _ _ _ _ _ _ _ _ _ _ _ _ _ _ _ _ _ _ _ _ _ _ _ _ _ _ _ _ _ _ _ _ _ _ _ _ _ _ _ _ _ _ _ _ _ _ _ _ _ _ _ _ _ _ _ _ _ _ _ (by assumption) (by assumption)
    · clear hM3 hM0 hy3
      go_upto_region 29 with fail
      exact from16 s b fr to n K X Y P 4 2 C RV MV W HV.out KM.out KP.out HB40.out.1 HB40.out.2 HMV.out hk8.out hb _ HI.out _ _ _ _ _ _ _ _ _ _ _ _ _ _ _ _ _ _ _ _ _ _ _ _ _ _ _ _ _ _ _ _ _ _ _ _ _ _ _ _ _ _ _ _ _ _ _ _ _ _ _ _ _ _ _ _ _ _ _ _ _ _ _ _ _ _ _ _ _ _ _ _ _ _ _ _ _ _ _ _ _ _ _ _ _ _ _ _ _ _ _ _ _ _ _ _ _ _ _ _ _ _ _ _ _ _ _ _ _ _ _ _ _ _ _ _ _ _ _ _ _ _ _ _ _ _ _ _ _ _ _ _ _ _ _ _ _ _ _ _ _ _ _ _ _ _ _ _ _ _ _ _ _ _ _ _ _ _ _ _ _ _ _ _ _ _ _ _ _ _ _ _ _ _ _ _ _ _ _ _ _ _ _ _ _ _ _ _ _ _ _ _ _ _ _ _ _ _ _ _ _ _ _ _ _ _ _ _ _ _ _ _ _ _ _ _ _ _ _ _ _ _ _ _ (by assumption) (by assumption)
    · clear hM3 hM0 hy3
      go_upto_region 29 with fail
      exact from16 s b fr to n K X Y P 16 3 C RV MV W HV.out KM.out KP.out HB40.out.1 HB40.out.2 HMV.out hk8.out hb _ HI.out _ _ _ _ _ _ _ _ _ _ _ _ _ _ _ _ _ _ _ _ _ _ _ _ _ _ _ _ _ _ _ _ _ _ _ _ _ _ _ _ _ _ _ _ _ _ _ _ _ _ _ _ _ _ _ _ _ _ _ _ _ _ _ _ _ _ _ _ _ _ _ _ _ _ _ _ _ _ _ _ _ _ _ _ _ _ _ _ _ _ _ _ _ _ _ _ _ _ _ _ _ _ _ _ _ _ _ _ _ _ _ _ _ _ _ _ _ _ _ _ _ _ _ _ _ _ _ _ _ _ _ _ _ _ _ _ _ _ _ _ _ _ _ _ _ _ _ _ _ _ _ _ _ _ _ _ _ _ _ _ _ _ _ _ _ _ _ _ _ _ _ _ _ _ _ _ _ _ _ _ _ _ _ _ _ _ _ _ _ _ _ _ _ _ _ _ _ _ _ _ _ _ _ _ _ _ _ _ _ _ _ _ _ _ _ _ _ _ _ _ _ _ _ _ (by assumption) (by assumption)
    · clear hM3 hM0 hy3
      go_upto_region 29 with fail
      exact from16 s b fr to n K X Y P 32 3 C RV MV W HV.out KM.out KP.out HB40.out.1 HB40.out.2 HMV.out hk8.out hb _ HI.out _ _ _ _ _ _ _ _ _ _ _ _ _ _ _ _ _ _ _ _ _ _ _ _ _ _ _ _ _ _ _ _ _ _ _ _ _ _ _ _ _ _ _ _ _ _ _ _ _ _ _ _ _ _ _ _ _ _ _ _ _ _ _ _ _ _ _ _ _ _ _ _ _ _ _ _ _ _ _ _ _ _ _ _ _ _ _ _ _ _ _ _ _ _ _ _ _ _ _ _ _ _ _ _ _ _ _ _ _ _ _ _ _ _ _ _ _ _ _ _ _ _ _ _ _ _ _ _ _ _ _ _ _ _ _ _ _ _ _ _ _ _ _ _ _ _ _ _ _ _ _ _ _ _ _ _ _ _ _ _ _ _ _ _ _ _ _ _ _ _ _ _ _ _ _ _ _ _ _ _ _ _ _ _ _ _ _ _ _ _ _ _ _ _ _ _ _ _ _ _ _ _ _ _ _ _ _ _ _ _ _ _ _ _ _ _ _ _ _ _ _ _ _ _ (by assumption) (by assumption)

end Go.Proofs.YtikjfmpdfeaooaaDoor.Dh

/- The document's Read of a long head: from test 14 of its body on (written by wip/gen/di2.py). -/
namespace Go.Proofs.YtikjfmpdfeaooaaDoor.Dh
open Go.ChangeShapes Go.WideShapes Go.ChangeAt Go.RowKit
open Go.Proofs.YtikjfmpdfeaooaaDoor.Le Go.Proofs.YtikjfmpdfeaooaaDoor.Sr Go.Proofs.YtikjfmpdfeaooaaDoor.Ma
set_option linter.unusedVariables false

set_option maxRecDepth 100000 in
set_option maxHeartbeats 16000000 in
theorem from14 (s b : ByteArray) (fr to n K : Nat) (X Y P D M C : Int) (RV MV : Array Value) (W : World) (DVh : DV fr n K X Y P D M C RV MV) (KM0 : ∀ u, Calls Tryd.prog 35 #[.string s, .agg #[.int .i64 (n : Nat), .int .i64 X, .int .i64 (fa Y), .bool (decide (Y < 0)), .int .i64 D, .int .i64 M, .int .i64 (clrC D C), .int .i64 0, .int .i64 0, .int .i64 0, .int .i64 0, .int .i64 (fr : Nat), .int .i64 ((fr + n : Nat)), .int .i64 0, .int .i64 0], .int .i64 (to : Nat)] u fun e w' => e = .returned (.agg MV) ∧ u.grownBy w' none) (KP0 : ∀ u, Calls Tryd.prog 29 #[.string (b.extract 12 (12 + 2))] u fun e w' => e = .returned (.int .i64 P) ∧ u = w') (hb40 : 40 ≤ b.size) (hbm : b.size ≤ 9223372036854775807) (hMV : MVis MV) (lo : 6 ≤ K) (hb : Nat) (w5 : World) (I : DI W hb #[.int .i64 (n : Nat), .int .i64 X, .int .i64 (fa Y), .bool (decide (Y < 0)), .int .i64 D, .int .i64 M, .int .i64 C, .int .i64 0, .int .i64 0, .int .i64 0, .int .i64 0, .int .i64 (fr : Nat), .int .i64 ((fr + n : Nat)), .int .i64 0, .int .i64 0] w5) 
    (u10 u11 u12 u13 u14 u15 u16 u17 u18 u19 u20 u21 u22 u23 u24 u25 u26 u27 u28 u29 u30 u31 u32 u33 u34 u35 u36 u37 u38 u39 u40 u41 u42 u43 u44 u45 u46 u47 u48 u49 u50 u51 u52 u53 u54 u55 u56 u57 u58 u59 u60 u61 u62 u63 u64 u65 u66 u67 u68 u69 u70 u71 u72 u73 u74 u75 u76 u77 u78 u79 u80 u81 u82 u83 u84 u85 u86 u87 u88 u89 u90 u91 u92 u93 u94 u95 u96 u97 u98 u99 u100 u101 u102 u103 u104 u105 u106 u107 u108 u109 u110 u111 u112 u113 u114 u115 u116 u117 u118 u119 u120 u121 u122 u123 u124 u125 u126 u127 u128 u129 u130 u131 u132 u133 u134 u135 u136 u137 u138 u139 u140 u141 u142 u143 u144 u145 u146 u147 u148 u149 u150 u151 u152 u153 u154 u155 u156 u157 u158 u159 u160 u161 u162 u163 u164 u165 u166 u167 u168 u169 u170 u171 u172 u173 u174 u175 u176 u177 u178 u179 u180 u181 u182 u183 u184 u185 u186 u187 u188 u189 u190 u191 u192 u193 u194 u195 u196 u197 u198 u199 u200 u201 u202 u203 u204 u205 u206 u207 u208 u209 u210 u211 u212 u213 u214 u215 u216 u217 u218 u219 u220 u221 u222 u223 u224 u225 u226 u227 u228 u229 u230 u231 : Value) (K1 K2 : Act → World → Prop) (k1 : ∀ a w, Code.wp Tryd.prog (tl7 (hd7 (tl7 (tl7 (tl7 (tl7 (tl7 (tl7 (tl7 (tl7 (tl7 (tl7 (tl7 (tl7 (tl7 (tl7 (bd20))))))))))))))))) (Exit.then K2 (bodyPost Tryd.prog Tryd.f11 (fun e w' => e = .returned (.agg RV) ∧ W.grownBy w' none))) a w → K1 a w) (k2 : ∀ a w, Code.wp Tryd.prog (tl7 (tl7 (tl7 (tl7 (tl7 (tl7 (tl7 (tl7 (tl7 (tl7 (tl7 (tl7 (tl7 (tl7 (tl7 (bd20)))))))))))))))) (bodyPost Tryd.prog Tryd.f11 (fun e w' => e = .returned (.agg RV) ∧ W.grownBy w' none)) a w → K2 a w) :
    Code.wp Tryd.prog (hd7 (hd7 (tl7 (tl7 (tl7 (tl7 (tl7 (tl7 (tl7 (tl7 (tl7 (tl7 (tl7 (tl7 (tl7 (tl7 (bd20))))))))))))))))) (Exit.then K1 (Exit.then K2 (bodyPost Tryd.prog Tryd.f11 (fun e w' => e = .returned (.agg RV) ∧ W.grownBy w' none)))) { tmps := #[.string s, .int .i64 (fr : Nat), .int .i64 (to : Nat), undef, undef, undef, .pointer (some ⟨W.heap.size, 0, none⟩), .int .i64 (n : Nat), .string b, .pointer (some ⟨hb, 0, none⟩), u10, u11, u12, u13, u14, u15, u16, u17, u18, u19, u20, u21, u22, u23, u24, u25, u26, u27, u28, u29, u30, u31, u32, u33, u34, u35, u36, u37, u38, u39, u40, u41, u42, u43, u44, u45, u46, u47, u48, u49, u50, u51, u52, u53, u54, u55, u56, u57, u58, u59, u60, u61, u62, u63, u64, u65, u66, u67, u68, u69, u70, u71, u72, u73, u74, u75, u76, u77, u78, u79, u80, u81, u82, u83, u84, u85, u86, u87, u88, u89, u90, u91, u92, u93, u94, u95, u96, u97, u98, u99, u100, u101, u102, u103, u104, u105, u106, u107, u108, u109, u110, u111, u112, u113, u114, u115, u116, u117, u118, u119, u120, u121, u122, u123, u124, u125, u126, u127, u128, u129, u130, u131, u132, u133, u134, u135, u136, u137, u138, u139, u140, u141, u142, u143, u144, u145, u146, u147, u148, u149, u150, u151, u152, u153, u154, u155, u156, u157, u158, u159, u160, u161, u162, u163, u164, u165, u166, u167, u168, u169, u170, u171, u172, u173, u174, u175, u176, u177, u178, u179, u180, u181, u182, u183, u184, u185, u186, u187, u188, u189, u190, u191, u192, u193, u194, u195, u196, u197, u198, u199, u200, u201, u202, u203, u204, u205, u206, u207, u208, u209, u210, u211, u212, u213, u214, u215, u216, u217, u218, u219, u220, u221, u222, u223, u224, u225, u226, u227, u228, u229, u230, u231], defers := [] } w5 := by
  have HV := Lib.hid DVh
  have KM := Lib.hid KM0
  have KP := Lib.hid KP0
  have HB40 := Lib.hid (And.intro hb40 hbm)
  have HLO := Lib.hid lo
  have HMV := Lib.hid hMV
  clear hMV
  have ne1 : W.heap.size ≠ hb := by have := I.lt; omega
  have ne2 : hb ≠ W.heap.size := by have := I.lt; omega
  have HI := Lib.hid I
  have hfr := DVh.fle
  have hnl := DVh.nle
  clear DVh KM0 KP0 lo hb40 hbm
  conv => arg 2; whnf
  conv => arg 4; dsimp only
  conv at k1 => enter [a, w, 1, 2]; whnf
  conv at k2 => enter [a, w, 1, 2]; whnf
  have a0 := blk_cell I.hd 0
  have a1 := blk_cell I.hd 1
  have a2 := blk_cell I.hd 2
  have a3 := blk_cell I.hd 3
  have a4 := blk_cell I.hd 4
  have a5 := blk_cell I.hd 5
  have a6 := blk_cell I.hd 6
  have a7 := blk_cell I.hd 7
  have a8 := blk_cell I.hd 8
  have a9 := blk_cell I.hd 9
  have a10 := blk_cell I.hd 10
  have a11 := blk_cell I.hd 11
  have a12 := blk_cell I.hd 12
  have a13 := blk_cell I.hd 13
  have a14 := blk_cell I.hd 14
  simp only [List.getElem?_toArray, List.getElem?_cons_succ, List.getElem?_cons_zero] at a0 a1 a2 a3 a4 a5 a6 a7 a8 a9 a10 a11 a12 a13 a14
  have hlx := blk_lt I.hd
  clear I
  by_cases hKk : K = 6
  · have hy := HV.out.f.yes (by omega)
    rw [hKk] at hy
    have q1 : (3 : Int) < M := of_decide_eq_true (show decide (3 < M) = true from hy)
    clear hy
    have E := Lib.hid (show RV = badA 3 ((fr : Int) + 16) from HV.out.bad 6 (by decide) hKk)
    have KB := Lib.hid (fun u => rbad_calls 3 ((fr : Int) + 16) u)
    have hwp : IntKind.i64.wrap ((fr : Int) + 16) = (fr : Int) + 16 := IntWalk.i64_in _ (by omega)
    unfold badA at KB
    go_wp2_with fail

    

    refine (KB.out _).mono ?_
    rintro e w9 ⟨rfl, g9⟩
    have B9 := old0 g9 HI.out.res (blk_lt HI.out.res) (by simp)
    have r0 := blk_cell B9 0
    have r1 := blk_cell B9 1
    have r2 := blk_cell B9 2
    have r3 := blk_cell B9 3
    have r4 := blk_cell B9 4
    have r5 := blk_cell B9 5
    have r6 := blk_cell B9 6
    have r7 := blk_cell B9 7
    have r8 := blk_cell B9 8
    have r9 := blk_cell B9 9
    have r10 := blk_cell B9 10
    have r11 := blk_cell B9 11
    have r12 := blk_cell B9 12
    have r13 := blk_cell B9 13
    have r14 := blk_cell B9 14
    have rf0 := blk_free B9 0
    have rf1 := blk_free B9 1
    have rf2 := blk_free B9 2
    have rf3 := blk_free B9 3
    have rf4 := blk_free B9 4
    have rf5 := blk_free B9 5
    have rf6 := blk_free B9 6
    have rf7 := blk_free B9 7
    have rf8 := blk_free B9 8
    have rf9 := blk_free B9 9
    have rf10 := blk_free B9 10
    have rf11 := blk_free B9 11
    have rf12 := blk_free B9 12
    have rf13 := blk_free B9 13
    have rf14 := blk_free B9 14
    simp only [List.getElem?_toArray, List.getElem?_cons_succ, List.getElem?_cons_zero] at r0 r1 r2 r3 r4 r5 r6 r7 r8 r9 r10 r11 r12 r13 r14
    have hlr := blk_lt B9
    have G9 := Lib.hid (gb_trans HI.out.gb g9)
    clear g9 B9 KB
    go_wp2
    refine bodyPost_ret (v := .agg (badA 3 ((fr : Int) + 16))) (by simp only [results, Tryd.results11, badA]; go_simp) rfl ⟨by rw [E.out], ?_⟩
    exact gb_own (gb_own (gb_own (gb_own (gb_own (gb_own (gb_own (gb_own (gb_own (gb_own (gb_own (gb_own (gb_own (gb_own (gb_own (G9.out) (Nat.le_refl _) (gb_set _ _ _ _)) (Nat.le_refl _) (gb_set _ _ _ _)) (Nat.le_refl _) (gb_set _ _ _ _)) (Nat.le_refl _) (gb_set _ _ _ _)) (Nat.le_refl _) (gb_set _ _ _ _)) (Nat.le_refl _) (gb_set _ _ _ _)) (Nat.le_refl _) (gb_set _ _ _ _)) (Nat.le_refl _) (gb_set _ _ _ _)) (Nat.le_refl _) (gb_set _ _ _ _)) (Nat.le_refl _) (gb_set _ _ _ _)) (Nat.le_refl _) (gb_set _ _ _ _)) (Nat.le_refl _) (gb_set _ _ _ _)) (Nat.le_refl _) (gb_set _ _ _ _)) (Nat.le_refl _) (gb_set _ _ _ _)) (Nat.le_refl _) (gb_set _ _ _ _)
  · have hy := HV.out.f.no 6 (by have h1 := HLO.out; omega)
    have q1 : ¬ (3 : Int) < M := of_decide_eq_false (show decide (3 < M) = false from hy)
    have hK7 : 7 ≤ K := by have h1 := HLO.out; omega
    have hk7 := Lib.hid hK7
    clear hy hKk hK7
    go_upto_region 27 with fail
    exact from15 s b fr to n K X Y P D M C RV MV W HV.out KM.out KP.out HB40.out.1 HB40.out.2 HMV.out hk7.out hb _ HI.out _ _ _ _ _ _ _ _ _ _ _ _ _ _ _ _ _ _ _ _ _ _ _ _ _ _ _ _ _ _ _ _ _ _ _ _ _ _ _ _ _ _ _ _ _ _ _ _ _ _ _ _ _ _ _ _ _ _ _ _ _ _ _ _ _ _ _ _ _ _ _ _ _ _ _ _ _ _ _ _ _ _ _ _ _ _ _ _ _ _ _ _ _ _ _ _ _ _ _ _ _ _ _ _ _ _ _ _ _ _ _ _ _ _ _ _ _ _ _ _ _ _ _ _ _ _ _ _ _ _ _ _ _ _ _ _ _ _ _ _ _ _ _ _ _ _ _ _ _ _ _ _ _ _ _ _ _ _ _ _ _ _ _ _ _ _ _ _ _ _ _ _ _ _ _ _ _ _ _ _ _ _ _ _ _ _ _ _ _ _ _ _ _ _ _ _ _ _ _ _ _ _ _ _ _ _ _ _ _ _ _ _ _ _ _ _ _ _ _ _ _ _ _ _ (by assumption) (by assumption)

end Go.Proofs.YtikjfmpdfeaooaaDoor.Dh

/- The document's Read of a long head: from test 13 of its body on (written by wip/gen/di2.py). -/
namespace Go.Proofs.YtikjfmpdfeaooaaDoor.Dh
open Go.ChangeShapes Go.WideShapes Go.ChangeAt Go.RowKit
open Go.Proofs.YtikjfmpdfeaooaaDoor.Le Go.Proofs.YtikjfmpdfeaooaaDoor.Sr Go.Proofs.YtikjfmpdfeaooaaDoor.Ma
set_option linter.unusedVariables false

set_option maxRecDepth 100000 in
set_option maxHeartbeats 16000000 in
theorem from13 (s b : ByteArray) (fr to n K : Nat) (X Y P D M C : Int) (RV MV : Array Value) (W : World) (DVh : DV fr n K X Y P D M C RV MV) (KM0 : ∀ u, Calls Tryd.prog 35 #[.string s, .agg #[.int .i64 (n : Nat), .int .i64 X, .int .i64 (fa Y), .bool (decide (Y < 0)), .int .i64 D, .int .i64 M, .int .i64 (clrC D C), .int .i64 0, .int .i64 0, .int .i64 0, .int .i64 0, .int .i64 (fr : Nat), .int .i64 ((fr + n : Nat)), .int .i64 0, .int .i64 0], .int .i64 (to : Nat)] u fun e w' => e = .returned (.agg MV) ∧ u.grownBy w' none) (KP0 : ∀ u, Calls Tryd.prog 29 #[.string (b.extract 12 (12 + 2))] u fun e w' => e = .returned (.int .i64 P) ∧ u = w') (hb40 : 40 ≤ b.size) (hbm : b.size ≤ 9223372036854775807) (hMV : MVis MV) (lo : 5 ≤ K) (hb : Nat) (w5 : World) (I : DI W hb #[.int .i64 (n : Nat), .int .i64 X, .int .i64 (fa Y), .bool (decide (Y < 0)), .int .i64 D, .int .i64 M, .int .i64 C, .int .i64 0, .int .i64 0, .int .i64 0, .int .i64 0, .int .i64 (fr : Nat), .int .i64 ((fr + n : Nat)), .int .i64 0, .int .i64 0] w5) 
    (u10 u11 u12 u13 u14 u15 u16 u17 u18 u19 u20 u21 u22 u23 u24 u25 u26 u27 u28 u29 u30 u31 u32 u33 u34 u35 u36 u37 u38 u39 u40 u41 u42 u43 u44 u45 u46 u47 u48 u49 u50 u51 u52 u53 u54 u55 u56 u57 u58 u59 u60 u61 u62 u63 u64 u65 u66 u67 u68 u69 u70 u71 u72 u73 u74 u75 u76 u77 u78 u79 u80 u81 u82 u83 u84 u85 u86 u87 u88 u89 u90 u91 u92 u93 u94 u95 u96 u97 u98 u99 u100 u101 u102 u103 u104 u105 u106 u107 u108 u109 u110 u111 u112 u113 u114 u115 u116 u117 u118 u119 u120 u121 u122 u123 u124 u125 u126 u127 u128 u129 u130 u131 u132 u133 u134 u135 u136 u137 u138 u139 u140 u141 u142 u143 u144 u145 u146 u147 u148 u149 u150 u151 u152 u153 u154 u155 u156 u157 u158 u159 u160 u161 u162 u163 u164 u165 u166 u167 u168 u169 u170 u171 u172 u173 u174 u175 u176 u177 u178 u179 u180 u181 u182 u183 u184 u185 u186 u187 u188 u189 u190 u191 u192 u193 u194 u195 u196 u197 u198 u199 u200 u201 u202 u203 u204 u205 u206 u207 u208 u209 u210 u211 u212 u213 u214 u215 u216 u217 u218 u219 u220 u221 u222 u223 u224 u225 u226 u227 u228 u229 u230 u231 : Value) (K1 K2 : Act → World → Prop) (k1 : ∀ a w, Code.wp Tryd.prog (tl7 (hd7 (tl7 (tl7 (tl7 (tl7 (tl7 (tl7 (tl7 (tl7 (tl7 (tl7 (tl7 (tl7 (tl7 (bd20)))))))))))))))) (Exit.then K2 (bodyPost Tryd.prog Tryd.f11 (fun e w' => e = .returned (.agg RV) ∧ W.grownBy w' none))) a w → K1 a w) (k2 : ∀ a w, Code.wp Tryd.prog (tl7 (tl7 (tl7 (tl7 (tl7 (tl7 (tl7 (tl7 (tl7 (tl7 (tl7 (tl7 (tl7 (tl7 (bd20))))))))))))))) (bodyPost Tryd.prog Tryd.f11 (fun e w' => e = .returned (.agg RV) ∧ W.grownBy w' none)) a w → K2 a w) :
    Code.wp Tryd.prog (hd7 (hd7 (tl7 (tl7 (tl7 (tl7 (tl7 (tl7 (tl7 (tl7 (tl7 (tl7 (tl7 (tl7 (tl7 (bd20)))))))))))))))) (Exit.then K1 (Exit.then K2 (bodyPost Tryd.prog Tryd.f11 (fun e w' => e = .returned (.agg RV) ∧ W.grownBy w' none)))) { tmps := #[.string s, .int .i64 (fr : Nat), .int .i64 (to : Nat), undef, undef, undef, .pointer (some ⟨W.heap.size, 0, none⟩), .int .i64 (n : Nat), .string b, .pointer (some ⟨hb, 0, none⟩), u10, u11, u12, u13, u14, u15, u16, u17, u18, u19, u20, u21, u22, u23, u24, u25, u26, u27, u28, u29, u30, u31, u32, u33, u34, u35, u36, u37, u38, u39, u40, u41, u42, u43, u44, u45, u46, u47, u48, u49, u50, u51, u52, u53, u54, u55, u56, u57, u58, u59, u60, u61, u62, u63, u64, u65, u66, u67, u68, u69, u70, u71, u72, u73, u74, u75, u76, u77, u78, u79, u80, u81, u82, u83, u84, u85, u86, u87, u88, u89, u90, u91, u92, u93, u94, u95, u96, u97, u98, u99, u100, u101, u102, u103, u104, u105, u106, u107, u108, u109, u110, u111, u112, u113, u114, u115, u116, u117, u118, u119, u120, u121, u122, u123, u124, u125, u126, u127, u128, u129, u130, u131, u132, u133, u134, u135, u136, u137, u138, u139, u140, u141, u142, u143, u144, u145, u146, u147, u148, u149, u150, u151, u152, u153, u154, u155, u156, u157, u158, u159, u160, u161, u162, u163, u164, u165, u166, u167, u168, u169, u170, u171, u172, u173, u174, u175, u176, u177, u178, u179, u180, u181, u182, u183, u184, u185, u186, u187, u188, u189, u190, u191, u192, u193, u194, u195, u196, u197, u198, u199, u200, u201, u202, u203, u204, u205, u206, u207, u208, u209, u210, u211, u212, u213, u214, u215, u216, u217, u218, u219, u220, u221, u222, u223, u224, u225, u226, u227, u228, u229, u230, u231], defers := [] } w5 := by
  have HV := Lib.hid DVh
  have KM := Lib.hid KM0
  have KP := Lib.hid KP0
  have HB40 := Lib.hid (And.intro hb40 hbm)
  have HLO := Lib.hid lo
  have HMV := Lib.hid hMV
  clear hMV
  have ne1 : W.heap.size ≠ hb := by have := I.lt; omega
  have ne2 : hb ≠ W.heap.size := by have := I.lt; omega
  have HI := Lib.hid I
  have hfr := DVh.fle
  have hnl := DVh.nle
  clear DVh KM0 KP0 lo hb40 hbm
  conv => arg 2; whnf
  conv => arg 4; dsimp only
  conv at k1 => enter [a, w, 1, 2]; whnf
  conv at k2 => enter [a, w, 1, 2]; whnf
  have a0 := blk_cell I.hd 0
  have a1 := blk_cell I.hd 1
  have a2 := blk_cell I.hd 2
  have a3 := blk_cell I.hd 3
  have a4 := blk_cell I.hd 4
  have a5 := blk_cell I.hd 5
  have a6 := blk_cell I.hd 6
  have a7 := blk_cell I.hd 7
  have a8 := blk_cell I.hd 8
  have a9 := blk_cell I.hd 9
  have a10 := blk_cell I.hd 10
  have a11 := blk_cell I.hd 11
  have a12 := blk_cell I.hd 12
  have a13 := blk_cell I.hd 13
  have a14 := blk_cell I.hd 14
  simp only [List.getElem?_toArray, List.getElem?_cons_succ, List.getElem?_cons_zero] at a0 a1 a2 a3 a4 a5 a6 a7 a8 a9 a10 a11 a12 a13 a14
  have hlx := blk_lt I.hd
  clear I
  have KD0 := fun u => rdepth_calls D u
  have e5 : ckD n X Y P D M C 5 = !(dp6 D) := by rw [← dp_6 HV.out.n12]; rfl
  by_cases hKk : K = 5
  · have hy := HV.out.f.yes (by omega)
    rw [hKk, e5] at hy
    rw [show dp6 D = false from by simpa using hy] at KD0
    have KD := Lib.hid KD0
    clear hy KD0 e5
    go_wp2_with fail
    refine (KD.out _).mono ?_
    rintro e w' ⟨rfl, rfl⟩
    have E := Lib.hid (show RV = badA 3 ((fr : Int) + 14) from by rw [HV.out.bad 5 (by decide) hKk, show plD n 5 = 14 from if_neg (by have := HV.out.n12; omega)]; rfl)
    have KB := Lib.hid (fun u => rbad_calls 3 ((fr : Int) + 14) u)
    have hwp : IntKind.i64.wrap ((fr : Int) + 14) = (fr : Int) + 14 := IntWalk.i64_in _ (by omega)
    unfold badA at KB
    go_wp2_with fail

    

    refine (KB.out _).mono ?_
    rintro e w9 ⟨rfl, g9⟩
    have B9 := old0 g9 HI.out.res (blk_lt HI.out.res) (by simp)
    have r0 := blk_cell B9 0
    have r1 := blk_cell B9 1
    have r2 := blk_cell B9 2
    have r3 := blk_cell B9 3
    have r4 := blk_cell B9 4
    have r5 := blk_cell B9 5
    have r6 := blk_cell B9 6
    have r7 := blk_cell B9 7
    have r8 := blk_cell B9 8
    have r9 := blk_cell B9 9
    have r10 := blk_cell B9 10
    have r11 := blk_cell B9 11
    have r12 := blk_cell B9 12
    have r13 := blk_cell B9 13
    have r14 := blk_cell B9 14
    have rf0 := blk_free B9 0
    have rf1 := blk_free B9 1
    have rf2 := blk_free B9 2
    have rf3 := blk_free B9 3
    have rf4 := blk_free B9 4
    have rf5 := blk_free B9 5
    have rf6 := blk_free B9 6
    have rf7 := blk_free B9 7
    have rf8 := blk_free B9 8
    have rf9 := blk_free B9 9
    have rf10 := blk_free B9 10
    have rf11 := blk_free B9 11
    have rf12 := blk_free B9 12
    have rf13 := blk_free B9 13
    have rf14 := blk_free B9 14
    simp only [List.getElem?_toArray, List.getElem?_cons_succ, List.getElem?_cons_zero] at r0 r1 r2 r3 r4 r5 r6 r7 r8 r9 r10 r11 r12 r13 r14
    have hlr := blk_lt B9
    have G9 := Lib.hid (gb_trans HI.out.gb g9)
    clear g9 B9 KB
    go_wp2
    refine bodyPost_ret (v := .agg (badA 3 ((fr : Int) + 14))) (by simp only [results, Tryd.results11, badA]; go_simp) rfl ⟨by rw [E.out], ?_⟩
    exact gb_own (gb_own (gb_own (gb_own (gb_own (gb_own (gb_own (gb_own (gb_own (gb_own (gb_own (gb_own (gb_own (gb_own (gb_own (G9.out) (Nat.le_refl _) (gb_set _ _ _ _)) (Nat.le_refl _) (gb_set _ _ _ _)) (Nat.le_refl _) (gb_set _ _ _ _)) (Nat.le_refl _) (gb_set _ _ _ _)) (Nat.le_refl _) (gb_set _ _ _ _)) (Nat.le_refl _) (gb_set _ _ _ _)) (Nat.le_refl _) (gb_set _ _ _ _)) (Nat.le_refl _) (gb_set _ _ _ _)) (Nat.le_refl _) (gb_set _ _ _ _)) (Nat.le_refl _) (gb_set _ _ _ _)) (Nat.le_refl _) (gb_set _ _ _ _)) (Nat.le_refl _) (gb_set _ _ _ _)) (Nat.le_refl _) (gb_set _ _ _ _)) (Nat.le_refl _) (gb_set _ _ _ _)) (Nat.le_refl _) (gb_set _ _ _ _)
  · have hy := HV.out.f.no 5 (by have h1 := HLO.out; omega)
    rw [e5] at hy
    rw [show dp6 D = true from by simpa using hy] at KD0
    have KD := Lib.hid KD0
    have hK6 : 6 ≤ K := by have h1 := HLO.out; omega
    have hk6 := Lib.hid hK6
    clear hy hKk hK6 KD0 e5
    go_wp2_with fail
    refine (KD.out _).mono ?_
    rintro e w' ⟨rfl, rfl⟩
    go_upto_region 25 with fail
    exact from14 s b fr to n K X Y P D M C RV MV W HV.out KM.out KP.out HB40.out.1 HB40.out.2 HMV.out hk6.out hb _ HI.out _ _ _ _ _ _ _ _ _ _ _ _ _ _ _ _ _ _ _ _ _ _ _ _ _ _ _ _ _ _ _ _ _ _ _ _ _ _ _ _ _ _ _ _ _ _ _ _ _ _ _ _ _ _ _ _ _ _ _ _ _ _ _ _ _ _ _ _ _ _ _ _ _ _ _ _ _ _ _ _ _ _ _ _ _ _ _ _ _ _ _ _ _ _ _ _ _ _ _ _ _ _ _ _ _ _ _ _ _ _ _ _ _ _ _ _ _ _ _ _ _ _ _ _ _ _ _ _ _ _ _ _ _ _ _ _ _ _ _ _ _ _ _ _ _ _ _ _ _ _ _ _ _ _ _ _ _ _ _ _ _ _ _ _ _ _ _ _ _ _ _ _ _ _ _ _ _ _ _ _ _ _ _ _ _ _ _ _ _ _ _ _ _ _ _ _ _ _ _ _ _ _ _ _ _ _ _ _ _ _ _ _ _ _ _ _ _ _ _ _ _ _ _ _ (by assumption) (by assumption)

end Go.Proofs.YtikjfmpdfeaooaaDoor.Dh
