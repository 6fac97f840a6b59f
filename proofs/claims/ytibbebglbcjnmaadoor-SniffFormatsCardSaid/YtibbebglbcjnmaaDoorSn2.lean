/- Layer 30: the iterator over the formats whose signs a text has. -/
import Derived.RangeFuncNested
import Derived.RangeFuncBound
import Derived.RangeFuncCalls
import Derived.RangeFuncLeaves
import Derived.Shelf.Abstract
import Derived.Shelf.RegionOpen
import Derived.WalkKit
import Derived.OwnWalkIn
import Derived.TacticsInMore
import Derived.LoopNIn
import Derived.LoopIn
import Derived.Test.YtibbebglbcjnmaaDoorSn1
namespace Go.Proofs.YtibbebglbcjnmaaDoor.Sn
open Go.ChangeShapes Go.WideShapes Go.ChangeAt Go.RowKit Go.Shelf
open Go.Proofs.YtibbebglbcjnmaaDoor.Le
set_option linter.unusedVariables false
attribute [local go_sem] Oper.semAt_some

/-- The formats, as they are gone through. -/
def ordL : List Nat := [1, 3, 5, 6, 8, 7, 4, 2]
def ordN (j : Nat) : Nat := ordL.getD j 0
/-- The table of the formats, in its variable. -/
def OrdT (w : World) : Prop := ∀ j, j < 8 → w.cell? ⟨0, j, none⟩ = some (.int .i64 (ordN j : Nat))
theorem OrdT.grown {w w' : World} {r : Option Nat} (h : OrdT w) (g : w.grownBy w' r) (hr : ∀ b, r = some b → b ≠ 0) : OrdT w' := fun j hj => g.cell (h j hj) (fun e => hr _ e.symm rfl)
theorem OrdT.lt {w : World} (h : OrdT w) : 0 < w.heap.size := by
  have h0 := h 0 (by decide)
  rcases Nat.lt_or_ge 0 w.heap.size with h' | h'
  · exact h'
  · simp [World.cell?, Array.getElem?_eq_none h'] at h0
/-- Those among the first j. -/
def upL (B : Nat → Bool) (j : Nat) : List Nat := (ordL.take j).filter B
def allL (B : Nat → Bool) : List Nat := ordL.filter B
theorem ord_drop (j : Nat) (h : j < 8) : ordL.take (j + 1) = ordL.take j ++ [ordN j] := by
  obtain rfl | rfl | rfl | rfl | rfl | rfl | rfl | rfl : j = 0 ∨ j = 1 ∨ j = 2 ∨ j = 3 ∨ j = 4 ∨ j = 5 ∨ j = 6 ∨ j = 7 := by omega
  all_goals rfl
theorem upL_yes {B : Nat → Bool} {j : Nat} (h : j < 8) (hb : B (ordN j) = true) : upL B (j + 1) = upL B j ++ [ordN j] := by
  unfold upL
  rw [ord_drop j h, List.filter_append]
  simp [hb]
theorem upL_no {B : Nat → Bool} {j : Nat} (h : j < 8) (hb : B (ordN j) = false) : upL B (j + 1) = upL B j := by
  unfold upL
  rw [ord_drop j h, List.filter_append]
  simp [hb]
theorem upL_8 (B : Nat → Bool) : upL B 8 = allL B := rfl
theorem upL_pre (B : Nat → Bool) (j : Nat) : upL B j <+: allL B := by
  unfold upL allL
  conv => rhs; rw [← List.take_append_drop j ordL, List.filter_append]
  exact List.prefix_append _ _
theorem upL_len (B : Nat → Bool) (j : Nat) (h : j < 8) : (upL B j).length < 8 := by
  have h1 : (upL B j).length ≤ (ordL.take j).length := List.length_filter_le _ _
  have h2 : (ordL.take j).length ≤ j := by rw [List.length_take]; omega
  omega

def ordV : Array Value := #[.int .i64 1, .int .i64 3, .int .i64 5, .int .i64 6, .int .i64 8, .int .i64 7, .int .i64 4, .int .i64 2]
theorem ord_idx (j : Nat) (h : j < 8) (u : World) : (Instr.index 35 (.agg ordV) (.int .i64 (j : Nat))).run Tryd.prog u = .ok (.int .i64 (ordN j : Nat)) u := by
  obtain rfl | rfl | rfl | rfl | rfl | rfl | rfl | rfl : j = 0 ∨ j = 1 ∨ j = 2 ∨ j = 3 ∨ j = 4 ∨ j = 5 ∨ j = 6 ∨ j = 7 := by omega
  all_goals kernel_rfl

def Kb (Bs : Nat) (W W' : World) : Prop := W'.heap[Bs]? = W.heap[Bs]?
theorem Kb.trans {Bs : Nat} {A B C : World} (h : Kb Bs A B) (k : Kb Bs B C) : Kb Bs A C := Eq.trans k h

set_option maxRecDepth 100000 in
set_option maxHeartbeats 4000000 in
theorem all_stops (n : Nat) (hn : 3 ≤ n) (s : ByteArray) (B : Nat → Bool) (Bs : Nat) (w : World) (hs : w.heap[Bs]? = some (.cells #[.string s] 9 (0, 0))) (hT : OrdT w)
    (KH : ∀ j, j < 8 → ∀ u, Calls Tryd.prog 11 #[.string s, .int .i64 (ordN j : Nat)] u fun e w' => e = .returned (.bool (B (ordN j))) ∧ u.grownBy w' none) :
    SeqStopsK Fence.wide n Tryd.prog 16 #[.pointer (some ⟨Bs, 0, none⟩)] (fun x : Nat => #[.int .i64 (x : Nat)]) (Kb Bs) (fun xs => xs = allL B) (fun pre => pre <+: allL B) 8 w := fun l J Jx W hW hJ hJx hY h0 => by
  have b1 : W.heap[Bs]? = some (.cells #[.string s] 9 (0, 0)) := (hW.block Bs (blk_lt hs)).trans hs
  have t1 : OrdT W := fun j hj => (hW.cell (p := ⟨0, j, none⟩) hT.lt).trans (hT j hj)
  have g0 := t1 0 (by decide)
  have g1 := t1 1 (by decide)
  have g2 := t1 2 (by decide)
  have g3 := t1 3 (by decide)
  have g4 := t1 4 (by decide)
  have g5 := t1 5 (by decide)
  have g6 := t1 6 (by decide)
  have g7 := t1 7 (by decide)
  simp only [ordN, ordL, List.getD_cons_zero, List.getD_cons_succ] at g0 g1 g2 g3 g4 g5 g6 g7
  have HJ := Lib.hid hJ
  have HJX := Lib.hid hJx
  have HY := Lib.hid hY
  have HKH := Lib.hid KH
  have HB1 := Lib.hid b1
  have HJ0 := Lib.hid h0
  clear hW hs hT hJ hJx hY h0 b1 t1 KH
  refine callsIn_of_wp Tryd.func16 rfl trivial ?_ rfl
  simp only [Tryd.ntmps16, List.size_toArray, List.length_cons, List.length_nil, Nat.reduceAdd, Nat.reduceSub, Array.replicate_succ, Array.replicate_zero, List.push_toArray, List.append_toArray, List.nil_append, List.cons_append]
  gi_wp2
  gi_loopw [6] (fun iv wr => ∃ j : Nat, j ≤ 8 ∧ iv = .int .i64 j ∧ wr.heap[Bs]? = some (.cells #[.string s] 9 (0, 0)) ∧ J (upL B j) wr) (fun iv _ => 8 - (intOf iv).toNat)
  case atStart => exact ⟨0, Nat.zero_le _, rfl, HB1.out, HJ0.out⟩
  case round =>
    obtain ⟨j, hj, rfl, c1, hJj⟩ := hrel
    have d1 := blk_cell c1 0
    simp only [List.getElem?_toArray, List.getElem?_cons_zero] at d1
    have HC1 := Lib.hid c1
    have HJJ := Lib.hid hJj
    clear c1 hJj g0 g1 g2 g3 g4 g5 g6 g7
    by_cases hlt : j < 8
    · have e1 : decide ((j : Int) < 8) = true := decide_eq_true (by omega)
      have hidx := ord_idx j hlt
      unfold ordV at hidx
      have KH := HKH.out j hlt
      obtain ⟨f, hf⟩ : ∃ f, ordN j = f := ⟨_, rfl⟩
      obtain ⟨bb, hbb⟩ : ∃ b, B f = b := ⟨_, rfl⟩
      rw [hf] at hidx KH
      rw [hbb] at KH
      have KH := Lib.hid KH
      have HF := Lib.hid (And.intro hf hbb)
      clear hf hbb
      gi_wp2_with fail
      refine ⟨trivial, fun h => (by cases h), (callsIn_wide.2 (KH.out wr)).mono ?_⟩
      rintro e w2 ⟨rfl, g2⟩
      have hJ2 := HJ.out (upL B j) wr w2 none HJJ.out g2 (fun r e => by cases e)
      have c2 := (g2.block Bs (blk_lt HC1.out) (by simp)).trans HC1.out
      have HC2 := Lib.hid c2
      clear KH g2 d1 hidx
      cases bb with
      | true =>
        obtain ⟨fn, tmps, assign, body, hy, hR⟩ := HY.out (upL B j) f w2 hJ2 (upL_len B j hlt)
        have HU := Lib.hid (show upL B (j + 1) = upL B j ++ [f] from by rw [upL_yes hlt (by rw [HF.out.1]; exact HF.out.2), HF.out.1])
        have HJ2 := Lib.hid hJ2
        clear c2 hJ2
        gi_wp2
        refine ⟨fun h => (by cases h), hR.mono ?_⟩
        rintro e w3 (⟨rfl, hJ3, hk⟩ | ⟨rfl, hJx3⟩)
        · have c3 : w3.heap[Bs]? = some (.cells #[.string s] 9 (0, 0)) := Eq.trans hk HC2.out
          have HC3 := Lib.hid c3
          have HJ3 := Lib.hid hJ3
          clear c3 hJ3 hk hy hR
          gi_wp2
          go_roundw
          case rel => exact ⟨j + 1, hlt, by go_num, HC3.out, by rw [HU.out]; exact HJ3.out⟩
          case measure => simp [intOf]; omega
        · have HX := Lib.hid hJx3
          have HP := Lib.hid (upL_pre B (j + 1))
          clear hJx3 hy hR
          gi_wp2
          exact ⟨rfl, _, results_none rfl _ _ _, ⟨_, rfl⟩, .inr ⟨_, by rw [← HU.out]; exact HP.out, HX.out⟩⟩
      | false =>
        have HU := Lib.hid (show upL B (j + 1) = upL B j from upL_no hlt (by rw [HF.out.1]; exact HF.out.2))
        have HJ2 := Lib.hid hJ2
        clear c2 hJ2
        gi_wp2
        refine ⟨fun _ h => (by cases h), ?_⟩
        gi_wp2
        go_roundw
        case rel => exact ⟨j + 1, hlt, by go_num, HC2.out, by rw [HU.out]; exact HJ2.out⟩
        case measure =>
          simp [intOf]
          omega
    · obtain rfl : j = 8 := by omega
      gi_wp2
      go_end0
      exact ⟨⟨_, rfl⟩, .inl ⟨_, rfl, HJJ.out⟩⟩

end Go.Proofs.YtibbebglbcjnmaaDoor.Sn
