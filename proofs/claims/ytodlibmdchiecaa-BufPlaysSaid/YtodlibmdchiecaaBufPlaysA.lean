/- One call of a buffer, and of the document's: many bytes are made one. -/
import Derived.Test.YtodlibmdchiecaaBufPlays2
import Derived.Deep.RegionHeld3
namespace Go.Proofs.Ytodlibmdchiecaa.Bu
open Go.ChangeShapes Go.WideShapes Go.ChangeAt Go.RowKit
open Go.Proofs.Ytodlibmdchiecaa.Le
set_option linter.unusedVariables false

theorem keep3 {w : World} {q : Nat} {u v x val : Value} {a : Addr} (h : w.cell? a = some val) (hne : a.block ≠ q) :
    (((w.setCell ⟨q, 0, none⟩ u).setCell ⟨q, 1, none⟩ v).setCell ⟨q, 2, none⟩ x).cell? a = some val :=
  (gb_set _ q 2 x).cell ((gb_set _ q 1 v).cell ((gb_set w q 0 u).cell h (by simpa using hne)) (by simpa using hne)) (by simpa using hne)

set_option maxRecDepth 100000 in
theorem one4_no {W w : World} {b l g : Nat} {o : Bool} {s : ByteArray} {y : Int} (I : PB W b l g o s y w) (i n v : Int) (S : ByteArray) (hi : i ≤ 9223372036854775807)
    (hb : b < w.heap.size) (hg : g < w.heap.size) (hl : l < w.heap.size) (hW : W.heap.size ≤ w.heap.size) (hno : thereB o s.size i n = false) :
    Calls Try.prog 10 #[.pointer (some ⟨b, 0, none⟩), .agg #[.string s, .bool o, .int .i64 y], .agg #[.int .i64 4, .int .i64 i, .int .i64 n, .int .u8 v, .string S]] w (Went W b l g) := by
  have big := I.bf.big
  have HI := Lib.hid I
  have KT := fun w => there_calls s o y i n w big hi
  rw [hno] at KT
  have HT := Lib.hid KT
  have HN := Lib.hid hno
  clear KT hno I
  go_enter Try.func10, Try.ntmps10
  go_wp2_with fail
  have I3 := Lib.hid (((HI.out.al (.cells #[.string s, .bool o, .int .i64 y] 33)).al (.cells #[.int .i64 4, .int .i64 i, .int .i64 n, .int .u8 v, .string S] 35)).al (.cells #[.string ⟨#[]⟩, .bool false, .int .i64 0] 33))
  refine (fill_no b l g o s i n v _ I3.out.bf hi HN.out).mono ?_
  rintro e w' ⟨rfl, rfl⟩
  go_wp2_with fail
  refine (HT.out _).mono ?_
  rintro e w4 ⟨rfl, g4⟩
  have bx := old3a g4 (by simp)
  have br := old3c g4 (by simp)
  have c0 := blk_cell bx 0
  have c1 := blk_cell bx 1
  have c2 := blk_cell bx 2
  have d0 := blk_cell br 0
  have d1 := blk_cell br 1
  have d2 := blk_cell br 2
  simp only [List.getElem?_toArray, List.getElem?_cons_succ, List.getElem?_cons_zero] at c0 c1 c2 d0 d1 d2
  have fr := fun o => blk_free br o
  have I4 := Lib.hid ((I3.out.go g4).put3 (w.heap.size + 1 + 1) (.string s) (.bool o) (.int .i64 y) (by omega) (by omega) (by omega) (by omega))
  clear g4 I3 HI HT bx br
  go_wp2
  exact bodyPost_ret (v := .tuple #[.agg #[.string s, .bool o, .int .i64 y], .bool true]) (by simp [results, Try.results10, go_sem, d0, d1, d2]) rfl ⟨s, o, y, rfl, I4.out⟩

set_option maxRecDepth 100000 in
set_option maxHeartbeats 4000000 in
theorem one4_yes {W w : World} {b l g : Nat} {s : ByteArray} {y : Int} (I : PB W b l g true s y w) (i n : Nat) (v : UInt8) (S : ByteArray)
    (hb : b < w.heap.size) (hg : g < w.heap.size) (hl : l < w.heap.size) (hW : W.heap.size ≤ w.heap.size) (hi : i + n ≤ s.size) :
    Calls Try.prog 10 #[.pointer (some ⟨b, 0, none⟩), .agg #[.string s, .bool true, .int .i64 y], .agg #[.int .i64 4, .int .i64 i, .int .i64 n, .int .u8 (v.toNat : Int), .string S]] w (Went W b l g) := by
  have big := I.bf.big
  have HI := Lib.hid I
  have KT := fun w => there_calls s true y i n w big (by omega)
  rw [there_is ⟨rfl, by omega, by omega, by omega⟩] at KT
  have HT := Lib.hid KT
  have HP := Lib.hid (fun w => rput_yes s (rep v n) y i w big (by rw [rep_size]; exact hi))
  have HS := Lib.hid (fun w => same_calls v n w (by omega))
  have HF := Lib.hid (fun w h => fill_yes b l g s i n v w h hi)
  have hsz := putS_size s (rep v n) i (by rw [rep_size]; exact hi)
  obtain ⟨z, hz⟩ : ∃ z, putS s (rep v n) i = z := ⟨_, rfl⟩
  obtain ⟨t, ht⟩ : ∃ t, rep v n = t := ⟨_, rfl⟩
  rw [hz] at HP HF hsz
  rw [ht] at HP HS
  have HSZ := Lib.hid hsz
  obtain ⟨x, hx⟩ : ∃ x : Int, (v.toNat : Int) = x := ⟨_, rfl⟩
  rw [hx] at HS HF ⊢
  clear KT I hz ht hsz hx
  go_enter Try.func10, Try.ntmps10
  go_wp2_with fail
  have I3 := Lib.hid (((HI.out.al (.cells #[.string s, .bool true, .int .i64 y] 33)).al (.cells #[.int .i64 4, .int .i64 i, .int .i64 n, .int .u8 x, .string S] 35)).al (.cells #[.string ⟨#[]⟩, .bool false, .int .i64 0] 33))
  refine (HF.out _ I3.out.op).mono ?_
  rintro e w4 ⟨rfl, BO, k4⟩
  have I4 := I3.out.wrote BO k4 HSZ.out
  have bx := old3a k4 (by simp; omega)
  have bo := old3b k4 (by simp; omega)
  have br := old3c k4 (by simp; omega)
  have hw4 := k4.size
  rw [size_alloc, size_alloc, size_alloc] at hw4
  have c0 := blk_cell bx 0
  have c1 := blk_cell bx 1
  have c2 := blk_cell bx 2
  have p1 := blk_cell bo 1
  have p2 := blk_cell bo 2
  simp only [List.getElem?_toArray, List.getElem?_cons_succ, List.getElem?_cons_zero] at c0 c1 c2 p1 p2
  have HX := Lib.hid bx
  have HO := Lib.hid bo
  have HR := Lib.hid br
  have HI4 := Lib.hid I4
  clear I3 HI HF BO k4 I4 bx bo br
  go_wp2_with fail
  refine (HT.out _).mono ?_
  rintro e w5 ⟨rfl, g5⟩
  have bx := old0 g5 HX.out (blk_lt HX.out) (by simp)
  have bo := old0 g5 HO.out (blk_lt HO.out) (by simp)
  have br := old0 g5 HR.out (blk_lt HR.out) (by simp)
  have I5 := HI4.out.go g5
  have hw5 := g5.size
  clear c0 c1 c2 p1 p2 HX HO HR HI4 g5 HT
  have c0 := blk_cell bx 0
  have c1 := blk_cell bx 1
  have c2 := blk_cell bx 2
  have p1 := blk_cell bo 1
  have p2 := blk_cell bo 2
  have p3 := blk_cell bo 3
  simp only [List.getElem?_toArray, List.getElem?_cons_succ, List.getElem?_cons_zero] at c0 c1 c2 p1 p2 p3
  have HR := Lib.hid br
  have HI5 := Lib.hid I5
  have hlt0 : w.heap.size < w5.heap.size := by omega
  have hlt1 : w.heap.size + 1 < w5.heap.size := by omega
  have ac0 := fun o => (World.grownBy_alloc w5 o none).cell c0 (by simp)
  have ac1 := fun o => (World.grownBy_alloc w5 o none).cell c1 (by simp)
  have ac2 := fun o => (World.grownBy_alloc w5 o none).cell c2 (by simp)
  have ap1 := fun o => (World.grownBy_alloc w5 o none).cell p1 (by simp)
  have ap2 := fun o => (World.grownBy_alloc w5 o none).cell p2 (by simp)
  have ap3 := fun o => (World.grownBy_alloc w5 o none).cell p3 (by simp)
  clear I5 bx bo br
  go_wp2_with fail
  go_region_held3 (fun w' => w'.cell? ⟨w.heap.size, 0, none⟩ = some (.string s) ∧ w'.cell? ⟨w.heap.size, 1, none⟩ = some (.bool true) ∧ w'.cell? ⟨w.heap.size, 2, none⟩ = some (.int .i64 y) ∧ w'.cell? ⟨w.heap.size + 1, 1, none⟩ = some (.int .i64 i) ∧ w'.cell? ⟨w.heap.size + 1, 2, none⟩ = some (.int .i64 n) ∧ w'.cell? ⟨w.heap.size + 1, 3, none⟩ = some (.int .u8 x)) ((first | go_keep | exact ⟨keep3 c07 (by dsimp only; omega), keep3 c17 (by dsimp only; omega), keep3 c27 (by dsimp only; omega), keep3 p17 (by dsimp only; omega), keep3 p27 (by dsimp only; omega), keep3 p37 (by dsimp only; omega)⟩))
    (first | (go_at_call 8; refine (HS.out _).mono ?_; rintro e w6 ⟨rfl, g6⟩; have G6 : w5.grownBy w6 none := gb_trans (by first | exact gb_drew _ _ | exact gb_trans (gb_drew _ _) (World.grownBy_alloc _ _ _)) g6; have HI6 := Lib.hid (HI5.out.go G6); have HR6 := Lib.hid (old0 G6 HR.out (blk_lt HR.out) (by simp)); have hs6 := G6.size; have c06 := G6.cell c0 (by simp); have ac06 := fun o => (World.grownBy_alloc w6 o none).cell c06 (by simp); have c16 := G6.cell c1 (by simp); have ac16 := fun o => (World.grownBy_alloc w6 o none).cell c16 (by simp); have c26 := G6.cell c2 (by simp); have ac26 := fun o => (World.grownBy_alloc w6 o none).cell c26 (by simp); have p16 := G6.cell p1 (by simp); have ap16 := fun o => (World.grownBy_alloc w6 o none).cell p16 (by simp); have p26 := G6.cell p2 (by simp); have ap26 := fun o => (World.grownBy_alloc w6 o none).cell p26 (by simp); have p36 := G6.cell p3 (by simp); have ap36 := fun o => (World.grownBy_alloc w6 o none).cell p36 (by simp); try (have bq6 : w6.heap[w5.heap.size]? = _ := (by first | exact old1 g6 (by simp) | exact old1 (w := w5) (gb_trans (gb_drew _ _) g6) (by simp)); have HQ6 := Lib.hid bq6; have q0 := blk_cell bq6 0; have q1 := blk_cell bq6 1; have q2 := blk_cell bq6 2; simp only [List.getElem?_toArray, List.getElem?_cons_succ, List.getElem?_cons_zero] at q0 q1 q2; clear bq6); clear g6 G6) | (go_at_call 20; refine (HP.out _).mono ?_; rintro e w7 ⟨rfl, g7⟩; have G7 : w6.grownBy w7 none := gb_trans (by first | exact gb_refl _ _ | exact World.grownBy_alloc _ _ _) g7; have HI7 := Lib.hid (HI6.out.go G7); have HR7 := Lib.hid (old0 G7 HR6.out (blk_lt HR6.out) (by simp)); have hs7 := G7.size; have c07 := G7.cell c06 (by simp); have ac07 := fun o => (World.grownBy_alloc w7 o none).cell c07 (by simp); have c17 := G7.cell c16 (by simp); have ac17 := fun o => (World.grownBy_alloc w7 o none).cell c17 (by simp); have c27 := G7.cell c26 (by simp); have ac27 := fun o => (World.grownBy_alloc w7 o none).cell c27 (by simp); have p17 := G7.cell p16 (by simp); have ap17 := fun o => (World.grownBy_alloc w7 o none).cell p17 (by simp); have p27 := G7.cell p26 (by simp); have ap27 := fun o => (World.grownBy_alloc w7 o none).cell p27 (by simp); have p37 := G7.cell p36 (by simp); have ap37 := fun o => (World.grownBy_alloc w7 o none).cell p37 (by simp);  have e0 := blk_cell HR7.out 0; have e1 := blk_cell HR7.out 1; have e2 := blk_cell HR7.out 2; simp only [List.getElem?_toArray, List.getElem?_cons_succ, List.getElem?_cons_zero] at e0 e1 e2; have fe := fun o => blk_free HR7.out o; try (first | (have bq7 := old0 G7 HQ6.out (blk_lt HQ6.out) (by simp); have u0 := blk_cell bq7 0; have u1 := blk_cell bq7 1; have u2 := blk_cell bq7 2; simp only [List.getElem?_toArray, List.getElem?_cons_succ, List.getElem?_cons_zero] at u0 u1 u2; have fu := fun o => blk_free bq7 o; clear bq7) | (have bq7 := old1 g7 (by simp); have u0 := blk_cell bq7 0; have u1 := blk_cell bq7 1; have u2 := blk_cell bq7 2; simp only [List.getElem?_toArray, List.getElem?_cons_succ, List.getElem?_cons_zero] at u0 u1 u2; have fu := fun o => blk_free bq7 o; clear bq7)); clear g7 G7))
  all_goals
    clear ac0 ac1 ac2 ap1 ap2 ap3 ac06 ac16 ac26 ap16 ap26 ap36 ac07 ac17 ac27 ap17 ap27 ap37 c0 c1 c2 p1 p2 p3 c06 c16 c26 p16 p26 p36 c07 c17 c27 p17 p27 p37
  · (have b8 := blk_al HR7.out (.cells #[.string z, .bool true, .int .i64 y] 33)
     have q8 := blk_at (w := w7) (o := .cells #[.string z, .bool true, .int .i64 y] 33)
     have I7 := (HI7.out.al (.cells #[.string z, .bool true, .int .i64 y] 33)).put3 (w.heap.size + 1 + 1) (.string z) (.bool true) (.int .i64 y) (by omega) (by omega) (by omega) (by omega)
     obtain ⟨w8, hw8⟩ : ∃ w8, w7.alloc (.cells #[.string z, .bool true, .int .i64 y] 33) = w8 := ⟨_, rfl⟩
     rw [hw8] at b8 q8 I7
     simp only [hw8]
     have I8 := Lib.hid I7
     have d0 := blk_cell b8 0
     have d1 := blk_cell b8 1
     have d2 := blk_cell b8 2
     have v0 := blk_cell q8 0
     have v1 := blk_cell q8 1
     have v2 := blk_cell q8 2
     simp only [List.getElem?_toArray, List.getElem?_cons_succ, List.getElem?_cons_zero] at d0 d1 d2 v0 v1 v2
     have fd := fun o => blk_free b8 o
     clear HI5 HI6 HI7 HR HR6 HR7 HS HP I7 b8 q8 hw8
     go_wp2; exact bodyPost_ret (v := .tuple #[.agg #[.string z, .bool true, .int .i64 y], .bool true]) (by simp [results, Try.results10, go_sem, d0, d1, d2]) rfl ⟨z, true, y, rfl, I8.out⟩)
  · (have n1 : ¬ w6.heap.size = w.heap.size + 1 + 1 := by omega
     have n2 : ¬ w.heap.size + 1 + 1 = w6.heap.size := by omega
     have I8 := Lib.hid ((HI7.out.put3 w6.heap.size (.string z) (.bool true) (.int .i64 y) (by omega) (by omega) (by omega) (by omega)).put3 (w.heap.size + 1 + 1) (.string z) (.bool true) (.int .i64 y) (by omega) (by omega) (by omega) (by omega))
     clear HI5 HI6 HI7 HR HR6 HR7 HS HP
     go_wp2; exact bodyPost_ret (v := .tuple #[.agg #[.string z, .bool true, .int .i64 y], .bool true]) (by simp [results, Try.results10, go_sem, e0, e1, e2]) rfl ⟨z, true, y, rfl, I8.out⟩)
  · (have n1 : ¬ w5.heap.size = w.heap.size + 1 + 1 := by omega
     have n2 : ¬ w.heap.size + 1 + 1 = w5.heap.size := by omega
     have I8 := Lib.hid ((HI7.out.put3 w5.heap.size (.string z) (.bool true) (.int .i64 y) (by omega) (by omega) (by omega) (by omega)).put3 (w.heap.size + 1 + 1) (.string z) (.bool true) (.int .i64 y) (by omega) (by omega) (by omega) (by omega))
     clear HI5 HI6 HI7 HR HR6 HR7 HS HP
     go_wp2; exact bodyPost_ret (v := .tuple #[.agg #[.string z, .bool true, .int .i64 y], .bool true]) (by simp [results, Try.results10, go_sem, e0, e1, e2]) rfl ⟨z, true, y, rfl, I8.out⟩)

end Go.Proofs.Ytodlibmdchiecaa.Bu
