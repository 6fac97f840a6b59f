/- Layer 30: whoever goes through the formats may stop at the first one: the law, walked (written by wip/gen/sn13.py). -/
import Derived.Test.YtibbebglbcjnmaaDoorSnL
import Derived.Test.YtibbebglbcjnmaaDoorSnM
namespace Go.Proofs.YtibbebglbcjnmaaDoor.Sn
open Go.ChangeShapes Go.WideShapes Go.ChangeAt Go.RowKit Go.Shelf
open Go.Proofs.YtibbebglbcjnmaaDoor.Le Go.Proofs.YtibbebglbcjnmaaDoor.Tk
set_option linter.unusedVariables false
attribute [local go_sem] Oper.semAt_some

theorem own_def {β : Type} {n D : Nat} {o : Obj} (h : D < n) (hs : ∀ X : World, X.heap[D]? = some o → D < X.heap.size) : OwnFrom n (fun (_ : β) X => X.heap[D]? = some o) := fun s X Y row hX hg hr =>
  (hg.block D (hs X hX) (fun e => by have := (hr D e.symm).1; omega)).trans hX
theorem lt_of {X : World} {D : Nat} {o : Obj} (h : X.heap[D]? = some o) : D < X.heap.size := (Array.getElem?_eq_some_iff.1 h).1

theorem stops_big (s : ByteArray) (h : 3000 < s.size) (W : World) (HT : OrdT W) : Calls Tryd.prog 5 #[.string s] W fun e w' => e = .returned (.bool true) ∧ W.grownBy w' none := by
  have d0 : (3000 : Int) < (s.size : Int) := by omega
  have d1 : decide ((3000 : Int) < (s.size : Int)) = true := decide_eq_true d0
  have KW := Lib.hid (awake_calls W HT)
  clear HT
  refine (callsIn_wide (n := 8)).1 ?_
  refine callsIn_of_wp_marks Tryd.func5 rfl trivial ?_ rfl
  simp only [Tryd.ntmps5, List.size_toArray, List.length_cons, List.length_nil, Nat.reduceAdd, Nat.reduceSub, Array.replicate_succ, Array.replicate_zero, List.push_toArray, List.append_toArray, List.nil_append, List.cons_append]
  gi_wp2_with fail
  refine ⟨trivial, (callsIn_wide.2 KW.out).mono ?_⟩
  rintro e w1 ⟨rfl, g1⟩
  gi_wp2
  exact ⟨_, results_tmp rfl _ _ _, rfl, g1⟩

set_option maxRecDepth 100000 in
set_option maxHeartbeats 4000000 in
theorem stops_small (s : ByteArray) (h : s.size ≤ 3000) (W : World) (HT : OrdT W) : Calls Tryd.prog 5 #[.string s] W fun e w' => e = .returned (.bool true) ∧ W.grownBy w' none := by
  have d0 : ¬ (3000 : Int) < (s.size : Int) := by omega
  have d1 : decide ((3000 : Int) < (s.size : Int)) = false := decide_eq_false d0
  have h63 : s.size ≤ 9223372036854775807 := by omega
  obtain ⟨B, HS, hB2⟩ := hs_all s h63
  have KH := Lib.hid (fun j hj u => has_ord s B HS h63 j hj u)
  have KA := Lib.hid (fun u => all_calls s u)
  have KRA := Lib.hid (fun u => rall_calls s B (rhas_ord s B HS hB2) u)
  have KRF := Lib.hid (fun u => rformat_calls s B (rhas_ord s B HS hB2) u)
  have KW := Lib.hid (fun u (g : W.grownBy u none) => awake_calls u (HT.grown g (fun b e => by cases e)))
  have HT := Lib.hid HT
  clear HS hB2 h h63
  refine (callsIn_wide (n := 8)).1 ?_
  refine callsIn_of_wp_marks Tryd.func5 rfl trivial ?_ rfl
  simp only [Tryd.ntmps5, List.size_toArray, List.length_cons, List.length_nil, Nat.reduceAdd, Nat.reduceSub, Array.replicate_succ, Array.replicate_zero, List.push_toArray, List.append_toArray, List.nil_append, List.cons_append]
  gi_wp2_with fail
  refine ⟨trivial, (callsIn_wide.2 (KA.out _)).mono ?_⟩
  rintro e w1 ⟨rfl, rfl⟩
  have bS := Boxed.new W 9 (.string s)
  have g1 := World.grownBy_alloc W (.cells #[.string s] 9) none
  have hz : (W.alloc (.cells #[.string s] 9)).heap.size = W.heap.size + 1 := by rw [size_alloc]
  obtain ⟨w0, hw0⟩ : ∃ w0, W.alloc (.cells #[.string s] 9) = w0 := ⟨_, rfl⟩
  rw [hw0] at bS g1 hz ⊢
  clear hw0 KA
  have FN := fnil 16 #[.pointer (some ⟨W.heap.size, 0, none⟩)] w0
  have bN := (Boxed.new w0 3 (.int .i64 0)).alloc (.cells #[.int .i64 0] 3)
  have bF := Boxed.new (w0.alloc (.cells #[.int .i64 0] 3)) 3 (.int .i64 0)
  have bS2 := (bS.alloc (.cells #[.int .i64 0] 3)).alloc (.cells #[.int .i64 0] 3)
  have g2 := gb_trans g1 (gb_trans (World.grownBy_alloc w0 (.cells #[.int .i64 0] 3) none) (World.grownBy_alloc _ (.cells #[.int .i64 0] 3) none))
  have hz2 : ((w0.alloc (.cells #[.int .i64 0] 3)).alloc (.cells #[.int .i64 0] 3)).heap.size = W.heap.size + 1 + 1 + 1 := by rw [size_alloc, size_alloc, hz]
  rw [hz] at bN
  rw [size_alloc, hz] at bF
  gi_wp2
  obtain ⟨w2, hw2⟩ : ∃ w2, (w0.alloc (.cells #[.int .i64 0] 3)).alloc (.cells #[.int .i64 0] 3) = w2 := ⟨_, rfl⟩
  rw [hw2] at bN bF bS2 g2 hz2 ⊢
  have T1 : OrdT w2 := HT.out.grown g2 (fun b e => by cases e)
  clear hw2 FN bS g1 hz
  refine wpIn_rangeFunc_ownF rfl (by decide) (gf := 16) (lb := #[.pointer (some ⟨W.heap.size, 0, none⟩)]) rfl trivial (enters_of Tryd.func16 (by kernel_rfl) rfl)
    (all_stops 7 (by decide) s B W.heap.size w2 bS2 T1 KH.out) Kb.trans (kb_b (by omega)) (Below.refl _ _) (fun _ => rfl)
    (fun pre X => (pre = [] ∧ (Boxed X (W.heap.size + 1) 3 (.int .i64 0) ∧ (Boxed X (W.heap.size + 1 + 1) 3 (.int .i64 0) ∧ Boxed X W.heap.size 9 (.string s)))) ∧ W.grownBy X none)
    (fun c pre X => ((c = .exit 0 ∧ ∃ x, pre = [x]) ∧ (Boxed X (W.heap.size + 1) 3 (.int .i64 1) ∧ (Boxed X (W.heap.size + 1 + 1) 3 (.int .i64 (pre.headD 0 : Nat)) ∧ Boxed X W.heap.size 9 (.string s)))) ∧ W.grownBy X none)
    (((ownFrom_pure _ _).and (((boxed_own _ _ _).from _).and (((boxed_own _ _ _).from _).and ((boxed_own _ _ _).from _)))).and (own_gb (by omega)))
    (fun c => ((ownFrom_pure _ _).and (((boxed_own _ _ _).from _).and (((boxed_own _ _ _).from _).and ((boxed_own _ _ _).from _)))).and (own_gb (by omega)))
    ⟨⟨rfl, bN, bF, bS2⟩, g2⟩
    (fun x => { tmps := #[.string s, undef, .bool false, .func (.func 16) #[] #[.pointer (some ⟨W.heap.size, 0, none⟩)], .pointer (some ⟨W.heap.size + 1, 0, none⟩), .pointer (some ⟨W.heap.size + 1 + 1, 0, none⟩), .int .i64 (x : Nat), undef, .string s, .int .i64 (s.size : Nat), .bool false, undef, .string s, .func (.func 16) #[] #[.pointer (some ⟨W.heap.size, 0, none⟩)], .func (.func 16) #[] #[.pointer (some ⟨W.heap.size, 0, none⟩)], .bool false, .func (.func 16) #[] #[.pointer (some ⟨W.heap.size, 0, none⟩)], .int .i64 (x : Nat), undef, undef, undef, undef, undef, undef, undef, undef, undef, undef, undef, undef, undef, undef, undef, undef, undef, undef, undef, undef, undef, undef, undef, undef, undef, undef, undef], defers := [] }) ?assign ?body ?done ?stop
  case assign =>
    intro l x X K hK
    gi_wp2
    exact hK
  case body =>
    rintro l pre x X ⟨⟨rfl, b1, b2, b3⟩, g⟩ _
    have c1 := b1.cell
    have f1 := b1.frozen
    have c2 := b2.cell
    have f2 := b2.frozen
    have HB := Lib.hid (And.intro b1 (And.intro b2 b3))
    have HG := Lib.hid g
    clear b1 b2 b3 g
    gi_wp2
    exact ⟨(KeepsOthers.setCell _ _ _).trans (KeepsOthers.setCell _ _ _), ⟨⟨rfl, x, rfl⟩, (HB.out.1.set _).other (by omega) _, (HB.out.2.1.other (by omega) _).set _, (HB.out.2.2.other (by omega) _).other (by omega) _⟩, gb_own (gb_own HG.out (by omega) (gb_set _ _ _ _)) (by omega) (gb_set _ _ _ _)⟩
  case done =>
    rintro D xs X hD hxs0 ⟨⟨rfl, b1, b2, b3⟩, g⟩ hK
    obtain ⟨k, hk⟩ : ∃ k : Nat, 0 = k := ⟨_, rfl⟩
    obtain ⟨v, hv⟩ : ∃ v : Nat, 0 = v := ⟨_, rfl⟩
    have HK1 := Lib.hid (show k = min (allL B).length 1 ∧ v = fmtL B from by
      rw [← hk, ← hv]; unfold fmtL; rw [← hxs0]; exact ⟨rfl, rfl⟩)
    have b1 : Boxed X (W.heap.size + 1) 3 (.int .i64 (k : Nat)) := by rw [← hk]; exact b1
    have b2 : Boxed X (W.heap.size + 1 + 1) 3 (.int .i64 (v : Nat)) := by rw [← hv]; exact b2
    have T2 : OrdT X := HT.out.grown g (fun b e => by cases e)
    have bM := Boxed.new X 3 (.int .i64 0)
    have g3 := gb_trans g (World.grownBy_alloc X (.cells #[.int .i64 0] 3) none)
    have a1 := b1.alloc (.cells #[.int .i64 0] 3)
    have a2 := b2.alloc (.cells #[.int .i64 0] 3)
    have a3 := b3.alloc (.cells #[.int .i64 0] 3)
    have hK2 : (X.alloc (.cells #[.int .i64 0] 3)).heap[D]? = some (.deferred (some [])) := (Below.heap_alloc X _ D (lt_of hK)).trans hK
    have hDm : D < X.heap.size := lt_of hK
    have hWm : W.heap.size + 1 + 1 < X.heap.size := b2.lt
    have T3 : OrdT (X.alloc (.cells #[.int .i64 0] 3)) := HT.out.grown g3 (fun b e => by cases e)
    have hz3 : (X.alloc (.cells #[.int .i64 0] 3)).heap.size = X.heap.size + 1 := by rw [size_alloc]
    clear b1 b2 b3 g hk hv T2 hxs0
    gi_wp2
    obtain ⟨w3, hw3⟩ : ∃ w3, X.alloc (.cells #[.int .i64 0] 3) = w3 := ⟨_, rfl⟩
    rw [hw3] at bM g3 a1 a2 a3 hK2 T3 hz3 ⊢
    obtain ⟨M, hM⟩ : ∃ M, X.heap.size = M := ⟨_, rfl⟩
    rw [hM] at bM hDm hWm hz3 ⊢
    clear hw3 hM hK
    refine wpIn_rangeFunc_ownF rfl (by decide) (gf := 16) (lb := #[.pointer (some ⟨W.heap.size, 0, none⟩)]) rfl trivial (enters_of Tryd.func16 (by kernel_rfl) rfl)
      (all_stops 7 (by decide) s B W.heap.size w3 a3 T3 KH.out) Kb.trans (kb_b (by omega)) (Below.refl _ _) (fun _ => rfl)
      (fun pre Y => (Boxed Y M 3 (.int .i64 (pre.length : Nat)) ∧ (Boxed Y (W.heap.size + 1) 3 (.int .i64 (k : Nat)) ∧ (Boxed Y (W.heap.size + 1 + 1) 3 (.int .i64 (v : Nat)) ∧ Y.heap[D]? = some (.deferred (some []))))) ∧ W.grownBy Y none)
      (fun c pre Y => False)
      ((((boxed_own _ _ _).from _).and (((boxed_own _ _ _).from _).and (((boxed_own _ _ _).from _).and (own_def (by omega) (fun X h => lt_of h))))).and (own_gb (by omega)))
      (fun c s A B row hs hg hr => hs)
      ⟨⟨bM, a1, a2, hK2⟩, g3⟩
      (fun x => { tmps := #[.string s, undef, .bool false, .func (.func 16) #[] #[.pointer (some ⟨W.heap.size, 0, none⟩)], .pointer (some ⟨W.heap.size + 1, 0, none⟩), .pointer (some ⟨W.heap.size + 1 + 1, 0, none⟩), undef, .pointer (some ⟨M, 0, none⟩), .string s, .int .i64 (s.size : Nat), .bool false, undef, .string s, .func (.func 16) #[] #[.pointer (some ⟨W.heap.size, 0, none⟩)], .func (.func 16) #[] #[.pointer (some ⟨W.heap.size, 0, none⟩)], .bool false, .func (.func 16) #[] #[.pointer (some ⟨W.heap.size, 0, none⟩)], undef, undef, undef, undef, .func (.func 16) #[] #[.pointer (some ⟨W.heap.size, 0, none⟩)], .int .i64 (x : Nat), undef, undef, undef, undef, undef, undef, undef, undef, undef, undef, undef, undef, undef, undef, undef, undef, undef, undef, undef, undef, undef, undef], defers := [] }) ?assign2 ?body2 ?done2 ?stop2
    case assign2 =>
      intro l x Y K hK
      gi_wp2
      exact hK
    case body2 =>
      rintro l pre x Y ⟨⟨b1, b2, b3, hD1⟩, g⟩ hlen
      have c1 := b1.cell
      have f1 := b1.frozen
      have HB := Lib.hid (And.intro b1 (And.intro b2 b3))
      have HG := Lib.hid g
      have HD := Lib.hid hD1
      clear b1 b2 b3 g hD1
      gi_wp2
      refine ⟨KeepsOthers.setCell _ _ _, (gb_set Y M 0 _).block W.heap.size (by have := HB.out.2.1.lt; omega) (fun e => by have := Option.some.inj e; omega), ⟨?_, HB.out.2.1.other (by omega) _, HB.out.2.2.other (by omega) _, (KeepsOthers.setCell Y ⟨M, 0, none⟩ _).same D _ HD.out rfl⟩, gb_own HG.out (by omega) (gb_set _ _ _ _)⟩
      rw [show (((pre ++ [x]).length : Nat) : Int) = (pre.length : Int) + 1 by rw [List.length_append]; rfl]
      exact HB.out.1.set _
    case done2 =>
      rintro D2 xs Y hD2 hxs ⟨⟨b1, b2, b3, hD1⟩, g⟩ hKD
      rw [hxs] at b1
      obtain ⟨L, hL⟩ : ∃ L, (allL B).length = L := ⟨_, rfl⟩
      have hL8 : L ≤ 8 := by rw [← hL]; exact List.length_filter_le _ _
      have HK2 := Lib.hid HK1.out
      rw [hL] at b1
      have hk1 := HK1.out.1
      have hv1 := HK1.out.2
      rw [hL] at hk1
      have c1 := b1.cell
      have c2 := b2.cell
      have c3 := b3.cell
      have HL := Lib.hid hL
      have HB1 := Lib.hid b1
      have HB2 := Lib.hid b2
      have HB3 := Lib.hid b3
      have HG := Lib.hid g
      rw [← hv1] at KRF
      clear b1 b2 b3 g HK1 hL hv1 hxs
      gi_wp2_with fail
      have hmn : min (L : Int) 1 = (k : Int) := by omega
      clear hk1
      refine wpIn_wide.2 ?_
      go_region_held3 (fun w' => w'.cell? ⟨M, 0, none⟩ = some (.int .i64 (L : Nat)) ∧ w'.cell? ⟨W.heap.size + 1, 0, none⟩ = some (.int .i64 (k : Nat)) ∧ w'.cell? ⟨W.heap.size + 1 + 1, 0, none⟩ = some (.int .i64 (v : Nat))) (go_keep)
        (first
        | (go_at_call 10; (with_reducible refine (KRF.out _).mono ?_); rintro e w7 ⟨rfl, g7⟩; replace g7 := gb_trans (gb_drew Y none) g7; have G7 := Lib.hid g7; have x1 := (HB1.out.kept g7 (by simp)).cell; have x2 := (HB2.out.kept g7 (by simp)).cell; have x3 := (HB3.out.kept g7 (by simp)).cell; clear g7)
        | (go_at_call 8; (with_reducible refine (KRA.out _).mono ?_); rintro e w8 ⟨tv, rfl, Y8⟩; obtain ⟨q8, c8, rfl⟩ := Y8.sh; rw [HL.out]; have g8 := gb_trans G7.out Y8.g; have G8 := Lib.hid g8; have x1 := (HB1.out.kept g8 (by simp)).cell; have x2 := (HB2.out.kept g8 (by simp)).cell; have x3 := (HB3.out.kept g8 (by simp)).cell; clear g8 Y8)
        | (go_at_call 6; (with_reducible refine (KW.out _ (gb_trans HG.out G8.out)).mono ?_); rintro e w9 ⟨rfl, g9⟩; have G9 := Lib.hid (gb_trans G8.out g9); have x1 := (HB1.out.kept G9.out (by simp)).cell; have x2 := (HB2.out.kept G9.out (by simp)).cell; have x3 := (HB3.out.kept G9.out (by simp)).cell; clear g9))
      have K1 := (G9.out.block D2 (lt_of hKD) (by simp)).trans hKD
      have K2 := (G9.out.block D (lt_of hD1) (by simp)).trans hD1
      have GW := gb_trans HG.out G9.out
      clear G9 G8 G7 x1 x2 x3 c1 c2 c3
      gi_wp2
      refine ⟨by simp, .inl ⟨_, _, rfl, run_takeDeferred K1, by simp, .inl ⟨_, _, rfl, run_takeDeferred ((World.putObj_heap_other (by omega)).trans K2), ?_⟩⟩⟩
      exact ⟨_, results_tmp rfl _ _ _, rfl, gb_own (gb_own GW (by omega) (put_gb _ D2 _)) (by omega) (put_gb _ D _)⟩
    case stop2 =>
      rintro D2 c pre Y hD2 hpre hF hKD
      exact hF.elim
  case stop =>
    rintro D c pre X hD hpre ⟨⟨⟨rfl, x, rfl⟩, b1, b2, b3⟩, g⟩ hK
    obtain ⟨k, hk⟩ : ∃ k : Nat, 1 = k := ⟨_, rfl⟩
    obtain ⟨v, hv⟩ : ∃ v : Nat, x = v := ⟨_, rfl⟩
    have HK1 := Lib.hid (show k = min (allL B).length 1 ∧ v = fmtL B from by
      rw [← hk, ← hv]; unfold fmtL; obtain ⟨t, ht⟩ := hpre; rw [← ht]; exact ⟨by simp, rfl⟩)
    have b1 : Boxed X (W.heap.size + 1) 3 (.int .i64 (k : Nat)) := by rw [← hk]; exact b1
    have b2 : Boxed X (W.heap.size + 1 + 1) 3 (.int .i64 (v : Nat)) := by rw [← hv]; exact b2
    have T2 : OrdT X := HT.out.grown g (fun b e => by cases e)
    have bM := Boxed.new X 3 (.int .i64 0)
    have g3 := gb_trans g (World.grownBy_alloc X (.cells #[.int .i64 0] 3) none)
    have a1 := b1.alloc (.cells #[.int .i64 0] 3)
    have a2 := b2.alloc (.cells #[.int .i64 0] 3)
    have a3 := b3.alloc (.cells #[.int .i64 0] 3)
    have hK2 : (X.alloc (.cells #[.int .i64 0] 3)).heap[D]? = some (.deferred (some [])) := (Below.heap_alloc X _ D (lt_of hK)).trans hK
    have hDm : D < X.heap.size := lt_of hK
    have hWm : W.heap.size + 1 + 1 < X.heap.size := b2.lt
    have T3 : OrdT (X.alloc (.cells #[.int .i64 0] 3)) := HT.out.grown g3 (fun b e => by cases e)
    have hz3 : (X.alloc (.cells #[.int .i64 0] 3)).heap.size = X.heap.size + 1 := by rw [size_alloc]
    clear b1 b2 b3 g hk hv T2 hpre
    gi_wp2
    obtain ⟨w3, hw3⟩ : ∃ w3, X.alloc (.cells #[.int .i64 0] 3) = w3 := ⟨_, rfl⟩
    rw [hw3] at bM g3 a1 a2 a3 hK2 T3 hz3 ⊢
    obtain ⟨M, hM⟩ : ∃ M, X.heap.size = M := ⟨_, rfl⟩
    rw [hM] at bM hDm hWm hz3 ⊢
    clear hw3 hM hK
    refine wpIn_rangeFunc_ownF rfl (by decide) (gf := 16) (lb := #[.pointer (some ⟨W.heap.size, 0, none⟩)]) rfl trivial (enters_of Tryd.func16 (by kernel_rfl) rfl)
      (all_stops 7 (by decide) s B W.heap.size w3 a3 T3 KH.out) Kb.trans (kb_b (by omega)) (Below.refl _ _) (fun _ => rfl)
      (fun pre Y => (Boxed Y M 3 (.int .i64 (pre.length : Nat)) ∧ (Boxed Y (W.heap.size + 1) 3 (.int .i64 (k : Nat)) ∧ (Boxed Y (W.heap.size + 1 + 1) 3 (.int .i64 (v : Nat)) ∧ Y.heap[D]? = some (.deferred (some []))))) ∧ W.grownBy Y none)
      (fun c pre Y => False)
      ((((boxed_own _ _ _).from _).and (((boxed_own _ _ _).from _).and (((boxed_own _ _ _).from _).and (own_def (by omega) (fun X h => lt_of h))))).and (own_gb (by omega)))
      (fun c s A B row hs hg hr => hs)
      ⟨⟨bM, a1, a2, hK2⟩, g3⟩
      (fun x => { tmps := #[.string s, undef, .bool false, .func (.func 16) #[] #[.pointer (some ⟨W.heap.size, 0, none⟩)], .pointer (some ⟨W.heap.size + 1, 0, none⟩), .pointer (some ⟨W.heap.size + 1 + 1, 0, none⟩), undef, .pointer (some ⟨M, 0, none⟩), .string s, .int .i64 (s.size : Nat), .bool false, undef, .string s, .func (.func 16) #[] #[.pointer (some ⟨W.heap.size, 0, none⟩)], .func (.func 16) #[] #[.pointer (some ⟨W.heap.size, 0, none⟩)], .bool false, .func (.func 16) #[] #[.pointer (some ⟨W.heap.size, 0, none⟩)], undef, undef, undef, undef, .func (.func 16) #[] #[.pointer (some ⟨W.heap.size, 0, none⟩)], .int .i64 (x : Nat), undef, undef, undef, undef, undef, undef, undef, undef, undef, undef, undef, undef, undef, undef, undef, undef, undef, undef, undef, undef, undef, undef], defers := [] }) ?assign2 ?body2 ?done2 ?stop2
    case assign2 =>
      intro l x Y K hK
      gi_wp2
      exact hK
    case body2 =>
      rintro l pre x Y ⟨⟨b1, b2, b3, hD1⟩, g⟩ hlen
      have c1 := b1.cell
      have f1 := b1.frozen
      have HB := Lib.hid (And.intro b1 (And.intro b2 b3))
      have HG := Lib.hid g
      have HD := Lib.hid hD1
      clear b1 b2 b3 g hD1
      gi_wp2
      refine ⟨KeepsOthers.setCell _ _ _, (gb_set Y M 0 _).block W.heap.size (by have := HB.out.2.1.lt; omega) (fun e => by have := Option.some.inj e; omega), ⟨?_, HB.out.2.1.other (by omega) _, HB.out.2.2.other (by omega) _, (KeepsOthers.setCell Y ⟨M, 0, none⟩ _).same D _ HD.out rfl⟩, gb_own HG.out (by omega) (gb_set _ _ _ _)⟩
      rw [show (((pre ++ [x]).length : Nat) : Int) = (pre.length : Int) + 1 by rw [List.length_append]; rfl]
      exact HB.out.1.set _
    case done2 =>
      rintro D2 xs Y hD2 hxs ⟨⟨b1, b2, b3, hD1⟩, g⟩ hKD
      rw [hxs] at b1
      obtain ⟨L, hL⟩ : ∃ L, (allL B).length = L := ⟨_, rfl⟩
      have hL8 : L ≤ 8 := by rw [← hL]; exact List.length_filter_le _ _
      have HK2 := Lib.hid HK1.out
      rw [hL] at b1
      have hk1 := HK1.out.1
      have hv1 := HK1.out.2
      rw [hL] at hk1
      have c1 := b1.cell
      have c2 := b2.cell
      have c3 := b3.cell
      have HL := Lib.hid hL
      have HB1 := Lib.hid b1
      have HB2 := Lib.hid b2
      have HB3 := Lib.hid b3
      have HG := Lib.hid g
      rw [← hv1] at KRF
      clear b1 b2 b3 g HK1 hL hv1 hxs
      gi_wp2_with fail
      have hmn : min (L : Int) 1 = (k : Int) := by omega
      clear hk1
      refine wpIn_wide.2 ?_
      go_region_held3 (fun w' => w'.cell? ⟨M, 0, none⟩ = some (.int .i64 (L : Nat)) ∧ w'.cell? ⟨W.heap.size + 1, 0, none⟩ = some (.int .i64 (k : Nat)) ∧ w'.cell? ⟨W.heap.size + 1 + 1, 0, none⟩ = some (.int .i64 (v : Nat))) (go_keep)
        (first
        | (go_at_call 10; (with_reducible refine (KRF.out _).mono ?_); rintro e w7 ⟨rfl, g7⟩; replace g7 := gb_trans (gb_drew Y none) g7; have G7 := Lib.hid g7; have x1 := (HB1.out.kept g7 (by simp)).cell; have x2 := (HB2.out.kept g7 (by simp)).cell; have x3 := (HB3.out.kept g7 (by simp)).cell; clear g7)
        | (go_at_call 8; (with_reducible refine (KRA.out _).mono ?_); rintro e w8 ⟨tv, rfl, Y8⟩; obtain ⟨q8, c8, rfl⟩ := Y8.sh; rw [HL.out]; have g8 := gb_trans G7.out Y8.g; have G8 := Lib.hid g8; have x1 := (HB1.out.kept g8 (by simp)).cell; have x2 := (HB2.out.kept g8 (by simp)).cell; have x3 := (HB3.out.kept g8 (by simp)).cell; clear g8 Y8)
        | (go_at_call 6; (with_reducible refine (KW.out _ (gb_trans HG.out G8.out)).mono ?_); rintro e w9 ⟨rfl, g9⟩; have G9 := Lib.hid (gb_trans G8.out g9); have x1 := (HB1.out.kept G9.out (by simp)).cell; have x2 := (HB2.out.kept G9.out (by simp)).cell; have x3 := (HB3.out.kept G9.out (by simp)).cell; clear g9))
      have K1 := (G9.out.block D2 (lt_of hKD) (by simp)).trans hKD
      have K2 := (G9.out.block D (lt_of hD1) (by simp)).trans hD1
      have GW := gb_trans HG.out G9.out
      clear G9 G8 G7 x1 x2 x3 c1 c2 c3
      gi_wp2
      refine ⟨by simp, .inl ⟨_, _, rfl, run_takeDeferred K1, by simp, .inl ⟨_, _, rfl, run_takeDeferred ((World.putObj_heap_other (by omega)).trans K2), ?_⟩⟩⟩
      exact ⟨_, results_tmp rfl _ _ _, rfl, gb_own (gb_own GW (by omega) (put_gb _ D2 _)) (by omega) (put_gb _ D _)⟩
    case stop2 =>
      rintro D2 c pre Y hD2 hpre hF hKD
      exact hF.elim

/-- Any text. -/
theorem stops_any (s : ByteArray) (W : World) (HT : OrdT W) : Calls Tryd.prog 5 #[.string s] W fun e w' => e = .returned (.bool true) ∧ W.grownBy w' none := by
  rcases Nat.lt_or_ge 3000 s.size with h | h
  · exact stops_big s h W HT
  · exact stops_small s h W HT

end Go.Proofs.YtibbebglbcjnmaaDoor.Sn
