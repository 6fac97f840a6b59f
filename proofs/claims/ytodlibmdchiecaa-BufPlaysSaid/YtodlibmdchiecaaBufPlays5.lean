/- One call of a buffer, and of the document's: bytes are put, but have no room. -/
import Derived.Test.YtodlibmdchiecaaBufPlays2
namespace Go.Proofs.Ytodlibmdchiecaa.Bu
open Go.ChangeShapes Go.WideShapes Go.ChangeAt Go.RowKit
open Go.Proofs.Ytodlibmdchiecaa.Le
set_option linter.unusedVariables false

set_option maxRecDepth 100000 in
set_option maxHeartbeats 4000000 in
theorem one3_no {W w : World} {b l g : Nat} {o : Bool} {s : ByteArray} {y : Int} (I : PB W b l g o s y w) (i n : Int) (v : Int) (S : ByteArray)
    (hb : b < w.heap.size) (hg : g < w.heap.size) (hl : l < w.heap.size) (hW : W.heap.size ≤ w.heap.size) (hi : i ≤ 9223372036854775807) (hno : thereB o s.size i S.size = false) :
    Calls Try.prog 10 #[.pointer (some ⟨b, 0, none⟩), .agg #[.string s, .bool o, .int .i64 y], .agg #[.int .i64 3, .int .i64 i, .int .i64 n, .int .u8 v, .string S]] w (Went W b l g) := by
  have big := I.bf.big
  have HI := Lib.hid I
  have HP := Lib.hid (fun w => rput_no s S o y i w big hi (by first | exact hno | (rw [one_size]; exact hno)))
  have HN := Lib.hid hno
  clear I hno
  go_enter Try.func10, Try.ntmps10
  go_wp2_with fail
  have I3 := Lib.hid (((HI.out.al (.cells #[.string s, .bool o, .int .i64 y] 33)).al (.cells #[.int .i64 3, .int .i64 i, .int .i64 n, .int .u8 v, .string S] 35)).al (.cells #[.string ⟨#[]⟩, .bool false, .int .i64 0] 33))
  refine (HP.out _).mono ?_
  rintro e w4 ⟨rfl, g4⟩
  have g4' := g4
  have bo := blk_al (old3b g4' (by simp)) (.cells #[.string s, .bool o, .int .i64 y] 33)
  have br := blk_al (old3c g4' (by simp)) (.cells #[.string s, .bool o, .int .i64 y] 33)
  have bq := blk_at (w := w4) (o := .cells #[.string s, .bool o, .int .i64 y] 33)
  have I5 := (I3.out.go g4').al (.cells #[.string s, .bool o, .int .i64 y] 33)
  have hw4 := g4'.size
  rw [size_alloc, size_alloc, size_alloc] at hw4
  obtain ⟨w5, hw5⟩ : ∃ w5, w4.alloc (.cells #[.string s, .bool o, .int .i64 y] 33) = w5 := ⟨_, rfl⟩
  obtain ⟨q, hq⟩ : ∃ q, w4.heap.size = q := ⟨_, rfl⟩
  rw [hw5] at bo br bq I5
  rw [hq] at bq hw4
  have p1 := blk_cell bo 1
  have p3 := blk_cell bo 4
  have d0 := blk_cell br 0
  have d1 := blk_cell br 1
  have d2 := blk_cell br 2
  have q0 := blk_cell bq 0
  have q1 := blk_cell bq 1
  have q2 := blk_cell bq 2
  simp only [List.getElem?_toArray, List.getElem?_cons_succ, List.getElem?_cons_zero] at d0 d1 d2 p1 p3 q0 q1 q2
  have fr := fun o => blk_free br o
  have HJ := Lib.hid I5.drew
  have HQ := Lib.hid hq
  have HW5 := Lib.hid hw5
  have HBR := Lib.hid br
  have I6 := Lib.hid (I5.drew.put3 (w.heap.size + 1 + 1) (.string s) (.bool o) (.int .i64 y) (by omega) (by omega) (by omega) (by omega))
  clear g4' I3 HI HP bo I5 br bq hq hw5
  go_wp2_with fail
  simp only [HW5.out, HQ.out]
  go_region_with (go_at_call 22; refine (put_no b l g o s S i _ HJ.out.bf hi HN.out).mono ?_; rintro e w' ⟨rfl, rfl⟩)
  all_goals
    go_wp2
    exact bodyPost_ret (v := .tuple #[.agg #[.string s, .bool o, .int .i64 y], .bool true]) (by simp [results, Try.results10, go_sem, d0, d1, d2]) rfl ⟨s, o, y, rfl, I6.out⟩

end Go.Proofs.Ytodlibmdchiecaa.Bu
