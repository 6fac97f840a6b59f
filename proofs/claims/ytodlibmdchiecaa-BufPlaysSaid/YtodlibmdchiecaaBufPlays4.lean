/- One call of a buffer, and of the document's: a byte is set. -/
import Derived.Test.YtodlibmdchiecaaBufPlays2
namespace Go.Proofs.Ytodlibmdchiecaa.Bu
open Go.ChangeShapes Go.WideShapes Go.ChangeAt Go.RowKit
open Go.Proofs.Ytodlibmdchiecaa.Le
set_option linter.unusedVariables false

set_option maxRecDepth 100000 in
set_option maxHeartbeats 4000000 in
theorem one2_yes {W w : World} {b l g : Nat} {s : ByteArray} {y : Int} (I : PB W b l g true s y w) (i : Nat) (n : Int) (v : UInt8) (S : ByteArray)
    (hb : b < w.heap.size) (hg : g < w.heap.size) (hl : l < w.heap.size) (hW : W.heap.size ≤ w.heap.size) (hi : i < s.size) :
    Calls Try.prog 10 #[.pointer (some ⟨b, 0, none⟩), .agg #[.string s, .bool true, .int .i64 y], .agg #[.int .i64 2, .int .i64 i, .int .i64 n, .int .u8 (v.toNat : Int), .string S]] w (Went W b l g) := by
  have big := I.bf.big
  have HI := Lib.hid I
  have hcv := conv_one v (((w.alloc (.cells #[.string s, .bool true, .int .i64 y] 33)).alloc (.cells #[.int .i64 2, .int .i64 i, .int .i64 n, .int .u8 (v.toNat : Int), .string S] 35)).alloc (.cells #[.string ⟨#[]⟩, .bool false, .int .i64 0] 33))
  rw [size_alloc, size_alloc, size_alloc] at hcv
  have HP := Lib.hid (fun w => rput_yes s (one v) y i w big (by first | exact hi | (rw [one_size]; omega)))
  have HS := Lib.hid (fun w h => set_yes b l g s i v w h hi)
  have hsz := putS_size s (one v) i (by first | exact hi | (rw [one_size]; omega))
  obtain ⟨z, hz⟩ : ∃ z, putS s (one v) i = z := ⟨_, rfl⟩
  rw [hz] at HP HS hsz
  have HSZ := Lib.hid hsz
  obtain ⟨x, hx⟩ : ∃ x : Int, (v.toNat : Int) = x := ⟨_, rfl⟩
  rw [hx] at hcv HS ⊢
  have HX := Lib.hid hx
  clear I hx hz hsz
  go_enter Try.func10, Try.ntmps10
  go_wp2_with fail
  have I3 := Lib.hid (((HI.out.al (.cells #[.string s, .bool true, .int .i64 y] 33)).al (.cells #[.int .i64 2, .int .i64 i, .int .i64 n, .int .u8 x, .string S] 35)).al (.cells #[.string ⟨#[]⟩, .bool false, .int .i64 0] 33))
  refine (HP.out _).mono ?_
  rintro e w4 ⟨rfl, g4⟩
  have g4' := gb_trans (World.grownBy_alloc _ _ _) g4
  have bo := blk_al (old3b g4' (by simp)) (.cells #[.string z, .bool true, .int .i64 y] 33)
  have br := blk_al (old3c g4' (by simp)) (.cells #[.string z, .bool true, .int .i64 y] 33)
  have bq := blk_at (w := w4) (o := .cells #[.string z, .bool true, .int .i64 y] 33)
  have I5 := (I3.out.go g4').al (.cells #[.string z, .bool true, .int .i64 y] 33)
  have hw4 := g4'.size
  rw [size_alloc, size_alloc, size_alloc] at hw4
  obtain ⟨w5, hw5⟩ : ∃ w5, w4.alloc (.cells #[.string z, .bool true, .int .i64 y] 33) = w5 := ⟨_, rfl⟩
  obtain ⟨q, hq⟩ : ∃ q, w4.heap.size = q := ⟨_, rfl⟩
  rw [hw5] at bo br bq I5
  rw [hq] at bq hw4
  have p1 := blk_cell bo 1
  have p3 := blk_cell bo 3
  have d0 := blk_cell br 0
  have d1 := blk_cell br 1
  have d2 := blk_cell br 2
  have q0 := blk_cell bq 0
  have q1 := blk_cell bq 1
  have q2 := blk_cell bq 2
  simp only [List.getElem?_toArray, List.getElem?_cons_succ, List.getElem?_cons_zero] at d0 d1 d2 p1 p3 q0 q1 q2
  have fr := fun o => blk_free br o
  have HJ := Lib.hid I5.drew
  have HQ := Lib.hid hq
  have HW5 := Lib.hid hw5
  have HBR := Lib.hid br
  clear g4 g4' I3 HI HP bo I5 br bq hq hw5
  go_wp2_with fail
  simp only [HW5.out, HQ.out]
  go_region_with (go_at_call 21; refine (HS.out _ HJ.out.op).mono ?_; rintro e w6 ⟨rfl, BO, kk⟩; have HK := Lib.hid (HJ.out.wrote BO kk HSZ.out); have r0 := kk.cell q0 (by simp; omega); have r1 := kk.cell q1 (by simp; omega); have r2 := kk.cell q2 (by simp; omega); have e0 := kk.cell d0 (by simp; omega); have e1 := kk.cell d1 (by simp; omega); have e2 := kk.cell d2 (by simp; omega); have ff := fun o => blk_free (old0 kk HBR.out (blk_lt HBR.out) (by simp; omega)) o; clear BO kk)
  all_goals
    have I6 := Lib.hid (HK.out.put3 (w.heap.size + 1 + 1) (.string z) (.bool true) (.int .i64 y) (by omega) (by omega) (by omega) (by omega))
    go_wp2
    exact bodyPost_ret (v := .tuple #[.agg #[.string z, .bool true, .int .i64 y], .bool true]) (by simp [results, Try.results10, go_sem, e0, e1, e2]) rfl ⟨z, true, y, rfl, I6.out⟩

end Go.Proofs.Ytodlibmdchiecaa.Bu
