/- Package fault: a latch keeps the first fault that it is told. -/
import Derived.Test.YtodlibmdchiecaaDoorTn
namespace Go.Proofs.YtodlibmdchiecaaDoor.La3
open Go.ChangeShapes Go.WideShapes Go.ChangeAt Go.RowKit
open Go.Proofs.YtodlibmdchiecaaDoor.Le
set_option linter.unusedVariables false

/-- The cells of a latch. -/
def LC (d lk k f a i : Int) : Array Value := #[.int .u32 d, .int .i32 lk, .int .u32 0, .int .i64 k, .int .i64 f, .int .i64 a, .int .u32 i]

set_option maxRecDepth 100000 in
/-- What the Once does: the fault is kept. -/
theorem note1_calls (b pf pl pk : Nat) (d lk k0 f0 a0 i0 k f a : Int) (w : World) (n1 : ¬ b = pf) (n2 : ¬ b = pl) (n3 : ¬ b = pk) (n4 : ¬ pf = pk) (n5 : ¬ pl = pk)
    (hb : w.heap[b]? = some (.cells (LC d lk k0 f0 a0 i0) 63 (0, 0)))
    (hl : w.cell? ⟨pl, 0, none⟩ = some (.pointer (some ⟨b, 0, none⟩)))
    (hf : w.heap[pf]? = some (.cells #[.int .i64 k, .int .i64 f, .int .i64 a] 23 (0, 0)))
    (hk : w.heap[pk]? = some (.cells #[.bool false] 4 (0, 0))) :
    Calls Tryd.prog 29 #[.pointer (some ⟨pf, 0, none⟩), .pointer (some ⟨pl, 0, none⟩), .pointer (some ⟨pk, 0, none⟩)] w
      fun e w' => e = .returned (.tuple #[]) ∧ (w'.heap[b]? = some (.cells (LC d lk k f a 1) 63 (0, 0)) ∧ w'.heap[pk]? = some (.cells #[.bool true] 4 (0, 0))) ∧ Tn w w' [b, pk] := by
  have c3 : w.cell? ⟨b, 3, none⟩ = some (.int .i64 k0) := blk_cell hb 3
  have c4 : w.cell? ⟨b, 4, none⟩ = some (.int .i64 f0) := blk_cell hb 4
  have c5 : w.cell? ⟨b, 5, none⟩ = some (.int .i64 a0) := blk_cell hb 5
  have fb := fun o => blk_free hb o
  have p0 : w.cell? ⟨pf, 0, none⟩ = some (.int .i64 k) := blk_cell hf 0
  have p1 : w.cell? ⟨pf, 1, none⟩ = some (.int .i64 f) := blk_cell hf 1
  have p2 : w.cell? ⟨pf, 2, none⟩ = some (.int .i64 a) := blk_cell hf 2
  have m3 : ¬ pk = b := fun e => n3 e.symm
  have m2 : ¬ pl = b := fun e => n2 e.symm
  have E1 := blk_set (blk_set (blk_set hb 3 (.int .i64 k)) 4 (.int .i64 f)) 5 (.int .i64 a)
  have L1 := (gb_trans (gb_trans (gb_set w b 3 (.int .i64 k)) (gb_set _ b 4 (.int .i64 f))) (gb_set _ b 5 (.int .i64 a))).cell hl (by simpa using m2)
  have K1 := blk_other (o := 5) (v := .int .i64 a) (blk_other (o := 4) (v := .int .i64 f) (blk_other (o := 3) (v := .int .i64 k) hk m3) m3) m3
  have HE1 := Lib.hid E1
  have HK1 := Lib.hid K1
  clear hb hf hk E1 K1
  go_enter Tryd.func29, Tryd.ntmps29
  go_wp2_with fail
  refine (storeB ⟨b, 6, none⟩ (.int .u32 i0) _ rfl (blk_cell HE1.out 6) (blk_free HE1.out 6)).mono ?_
  rintro e w' ⟨rfl, rfl⟩
  obtain ⟨w2, hw2⟩ : ∃ w2, ((w.setCell ⟨b, 3, none⟩ (.int .i64 k)).setCell ⟨b, 4, none⟩ (.int .i64 f)).setCell ⟨b, 5, none⟩ (.int .i64 a) = w2 := ⟨_, rfl⟩
  have E2 := HE1.out
  have K2 := HK1.out
  rw [hw2] at E2 K2
  have T2 : Tn w w2 [b, pk] := hw2 ▸ (((Tn.set _ _ _ _ (by simp)).trans (Tn.set _ _ _ _ (by simp))).trans (Tn.set _ _ _ _ (by simp)))
  have E3 : (w2.drew.setCell ⟨b, 6, none⟩ (.int .u32 1)).heap[b]? = _ := blk_set (show w2.drew.heap[b]? = _ from E2) 6 (.int .u32 1)
  have K3 : (w2.drew.setCell ⟨b, 6, none⟩ (.int .u32 1)).heap[pk]? = _ := blk_other (show w2.drew.heap[pk]? = _ from K2) m3
  have T3 := (T2.trans (Tn.drew _ _)).trans (Tn.set w2.drew b 6 (.int .u32 1) (S := [b, pk]) (by simp))
  simp only [hw2]
  obtain ⟨w3, hw3⟩ : ∃ w3, w2.drew.setCell ⟨b, 6, none⟩ (.int .u32 1) = w3 := ⟨_, rfl⟩
  rw [hw3] at E3 K3 T3
  simp only [hw3]
  have d0 : w3.cell? ⟨pk, 0, none⟩ = some (.bool false) := blk_cell K3 0
  have fk := fun o => blk_free K3 o
  have HE := Lib.hid E3
  have HK := Lib.hid K3
  have HT := Lib.hid T3
  clear hw2 hw3 E2 K2 T2 E3 K3 T3 HE1 HK1 L1 c3 c4 c5 fb p0 p1 p2
  go_wp2
  go_end0
  refine ⟨rfl, ⟨(blk_other HE.out n3).trans ?_, blk_set HK.out 0 (.bool true)⟩, HT.out.trans (Tn.set _ _ _ _ (by simp))⟩
  simp [LC]

theorem note2_calls (b pf pl pk : Nat) (k f a : Int) (w : World) (n1 : ¬ b = pf) (n2 : ¬ b = pl) (n3 : ¬ b = pk) (n4 : ¬ pf = pk) (n5 : ¬ pl = pk)
    (hb : w.heap[b]? = some (.cells (LC 0 0 0 0 0 0) 63 (0, 0)))
    (hl : w.cell? ⟨pl, 0, none⟩ = some (.pointer (some ⟨b, 0, none⟩)))
    (hf : w.heap[pf]? = some (.cells #[.int .i64 k, .int .i64 f, .int .i64 a] 23 (0, 0)))
    (hk : w.heap[pk]? = some (.cells #[.bool false] 4 (0, 0))) :
    Calls Tryd.prog 34 #[.pointer (some ⟨b, 0, none⟩), .func (.func 29) #[] #[.pointer (some ⟨pf, 0, none⟩), .pointer (some ⟨pl, 0, none⟩), .pointer (some ⟨pk, 0, none⟩)]] w
      fun e w' => e = .returned (.tuple #[]) ∧ (w'.heap[b]? = some (.cells (LC 1 0 k f a 1) 63 (0, 0)) ∧ w'.heap[pk]? = some (.cells #[.bool true] 4 (0, 0))) ∧ Tn w w' [b, pk] := by
  have m1 : ¬ pf = b := fun e => n1 e.symm
  have m3 : ¬ pk = b := fun e => n3 e.symm
  have L1 : (w.setCell ⟨b, 1, none⟩ (.int .i32 1)).heap[b]? = some (.cells (LC 0 1 0 0 0 0) 63 (0, 0)) := blk_set hb 1 _
  have g1 := gb_set w b 1 (.int .i32 1)
  have cl := g1.cell hl (by simpa using fun e => n2 e.symm)
  have c0 : w.cell? ⟨b, 1, none⟩ = some (.int .i32 0) := blk_cell hb 1
  have c1 : (w.setCell ⟨b, 1, none⟩ (.int .i32 1)).cell? ⟨b, 0, none⟩ = some (.int .u32 0) := blk_cell L1 0
  have K1 := Lib.hid (lock_free ⟨b, 1, none⟩ w c0 (blk_free hb 1))
  have K2 := Lib.hid (loadB ⟨b, 0, none⟩ 0 _ c1 rfl)
  have K3 := Lib.hid (note1_calls b pf pl pk 0 1 0 0 0 0 k f a _ n1 n2 n3 n4 n5 L1 cl (blk_other hf m1) (blk_other hk m3))
  have hnot : ∀ (x : Bool) (w : World), (Op.unary .not (.bool x)).run Tryd.prog w = .ok (.bool (!x)) w := fun _ _ => rfl
  clear cl c0 c1 hl hf hk hb L1 g1 n1 n2 n4 n5
  go_enter_defers Tryd.func34, Tryd.ntmps34
  go_wp2_with (first | (go_at_call 40; refine K1.out.mono ?_; rintro e w' ⟨rfl, rfl⟩) | (go_at_call 31; refine K2.out.mono ?_; rintro e w' ⟨rfl, rfl⟩))
  refine K3.out.mono ?_
  rintro e w2 ⟨rfl, ⟨B2, Q2⟩, T2⟩
  have HB2 := Lib.hid B2
  have HQ2 := Lib.hid Q2
  have HT2 := Lib.hid T2
  clear B2 Q2 T2
  go_wp2
  refine leaves_cons (f := 30) (args := #[.pointer (some ⟨b, 0, none⟩), .bool true]) (by simp) (by simp [go_sem]) ?_
  have HB2d : w2.drew.heap[b]? = _ := HB2.out
  have HQ2d : w2.drew.heap[pk]? = _ := HQ2.out
  refine (storeB_d ⟨b, 0, none⟩ (.int .u32 0) .returning _ rfl (blk_cell HB2.out 0) (blk_free HB2.out 0)).mono ?_
  rintro e u' w'' ⟨rfl, rfl, rfl⟩
  have L3 : (w2.drew.setCell ⟨b, 0, none⟩ (.int .u32 1)).heap[b]? = some (.cells (LC 1 1 k f a 1) 63 (0, 0)) := blk_set HB2d 0 _
  refine leaves_cons (f := 41) (args := #[.pointer (some ⟨b, 1, none⟩)]) (by simp [settle]) (by simp [go_sem]) ?_
  refine (unlock_d ⟨b, 1, none⟩ _ _ (blk_cell L3 1) (blk_free L3 1)).mono ?_
  rintro e u' w'' ⟨rfl, rfl, rfl⟩
  have L4 : ((w2.drew.setCell ⟨b, 0, none⟩ (.int .u32 1)).setCell ⟨b, 1, none⟩ (.int .i32 0)).heap[b]? = some (.cells (LC 1 0 k f a 1) 63 (0, 0)) := blk_set L3 1 _
  have Q4 := blk_other (o := 1) (v := .int .i32 0) (blk_other (o := 0) (v := .int .u32 1) HQ2d m3) m3
  have T4 : Tn w ((w2.drew.setCell ⟨b, 0, none⟩ (.int .u32 1)).setCell ⟨b, 1, none⟩ (.int .i32 0)) [b, pk] :=
    ((((Tn.set _ _ _ _ (by simp)).trans HT2.out).trans (Tn.drew _ _)).trans (Tn.set _ _ _ _ (by simp))).trans (Tn.set _ _ _ _ (by simp))
  simp [Leaves, settle, results, Tryd.results34]
  exact ⟨⟨L4, Q4⟩, T4⟩

theorem note3_calls (b pf pl pk : Nat) (k f a : Int) (w : World) (n1 : ¬ b = pf) (n2 : ¬ b = pl) (n3 : ¬ b = pk) (n4 : ¬ pf = pk) (n5 : ¬ pl = pk)
    (hb : w.heap[b]? = some (.cells (LC 0 0 0 0 0 0) 63 (0, 0)))
    (hl : w.cell? ⟨pl, 0, none⟩ = some (.pointer (some ⟨b, 0, none⟩)))
    (hf : w.heap[pf]? = some (.cells #[.int .i64 k, .int .i64 f, .int .i64 a] 23 (0, 0)))
    (hk : w.heap[pk]? = some (.cells #[.bool false] 4 (0, 0))) :
    Calls Tryd.prog 28 #[.pointer (some ⟨b, 0, none⟩), .func (.func 29) #[] #[.pointer (some ⟨pf, 0, none⟩), .pointer (some ⟨pl, 0, none⟩), .pointer (some ⟨pk, 0, none⟩)]] w
      fun e w' => e = .returned (.tuple #[]) ∧ (w'.heap[b]? = some (.cells (LC 1 0 k f a 1) 63 (0, 0)) ∧ w'.heap[pk]? = some (.cells #[.bool true] 4 (0, 0))) ∧ Tn w w' [b, pk] := by
  have K1 := Lib.hid (note2_calls b pf pl pk k f a w n1 n2 n3 n4 n5 hb hl hf hk)
  have K2 := Lib.hid (loadB ⟨b, 0, none⟩ 0 w (blk_cell hb 0) rfl)
  have hnot : ∀ (x : Bool) (w : World), (Op.unary .not (.bool x)).run Tryd.prog w = .ok (.bool (!x)) w := fun _ _ => rfl
  clear hb hl hf hk n1 n2 n3 n4 n5
  go_enter Tryd.func28, Tryd.ntmps28
  go_wp2_with (go_at_call 31; refine K2.out.mono ?_; rintro e w' ⟨rfl, rfl⟩)
  refine K1.out.mono ?_
  rintro e w2 ⟨rfl, B2, T2⟩
  have HB2 := Lib.hid B2
  have HT2 := Lib.hid T2
  clear B2 T2
  go_wp2
  go_end0
  exact ⟨rfl, HB2.out, HT2.out⟩

/-- The Once, used up. -/
theorem note4_calls (b : Nat) (k f a i : Int) (fv : Value) (w : World) (hb : w.heap[b]? = some (.cells (LC 1 0 k f a i) 63 (0, 0))) :
    Calls Tryd.prog 28 #[.pointer (some ⟨b, 0, none⟩), fv] w fun e w' => e = .returned (.tuple #[]) ∧ w = w' := by
  have K2 := Lib.hid (loadB ⟨b, 0, none⟩ 1 w (blk_cell hb 0) rfl)
  have hnot : ∀ (x : Bool) (w : World), (Op.unary .not (.bool x)).run Tryd.prog w = .ok (.bool (!x)) w := fun _ _ => rfl
  clear hb
  go_enter Tryd.func28, Tryd.ntmps28
  go_wp2_with (go_at_call 31; refine K2.out.mono ?_; rintro e w' ⟨rfl, rfl⟩)
  go_end0
  exact ⟨rfl, rfl⟩

end Go.Proofs.YtodlibmdchiecaaDoor.La3
