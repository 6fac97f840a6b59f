/- Layer 30: All and Format. -/
import Derived.Test.YtibbebglbcjnmaaDoorSn2
namespace Go.Proofs.YtibbebglbcjnmaaDoor.Sn
open Go.ChangeShapes Go.WideShapes Go.ChangeAt Go.RowKit Go.Shelf
open Go.Proofs.YtibbebglbcjnmaaDoor.Le
set_option linter.unusedVariables false
attribute [local go_sem] Oper.semAt_some

theorem all_calls (s : ByteArray) (W : World) : Calls Tryd.prog 7 #[.string s] W fun e w' => e = .returned (.func (.func 16) #[] #[.pointer (some ⟨W.heap.size, 0, none⟩)]) ∧ w' = W.alloc (.cells #[.string s] 9) := by
  go_enter Tryd.func7, Tryd.ntmps7
  go_wp2
  go_ret
  exact ⟨rfl, rfl⟩

theorem own_gb {β : Type} {W : World} {B : Nat} (h : W.heap.size ≤ B) : OwnFrom B (fun (_ : β) X => W.grownBy X none) := fun s X Y row hs hg hr => by
  cases row with
  | none => exact gb_trans hs hg
  | some r => exact gb_own hs (Nat.le_trans h (hr r rfl).1) hg
theorem put_gb (X : World) (D : Nat) (o : Obj) : X.grownBy (X.putObj D o) (some D) := grownBy_putObj' X D o
theorem kb_b {w : World} {Bs : Nat} (h : Bs < w.heap.size) : ∀ (W : World) (l : Nat) (o o' : Obj), w.heap.size ≤ l → W.heap[l]? = some o → o.isCells = false → o.isWalk = false → Kb Bs W (W.putObj l o') := fun W l o o' hl _ _ _ => World.putObj_heap_other (by omega)

/-- The format of a text whose signs are B. -/
def fmtL (B : Nat → Bool) : Nat := (allL B).headD 0

set_option maxRecDepth 100000 in
set_option maxHeartbeats 4000000 in
theorem format_calls (s : ByteArray) (B : Nat → Bool) (KH : ∀ j, j < 8 → ∀ u, Calls Tryd.prog 11 #[.string s, .int .i64 (ordN j : Nat)] u fun e w' => e = .returned (.bool (B (ordN j))) ∧ u.grownBy w' none) (W : World) (HT : OrdT W) :
    Calls Tryd.prog 9 #[.string s] W fun e w' => e = .returned (.int .i64 (fmtL B : Nat)) ∧ W.grownBy w' none := by
  refine (callsIn_wide (n := 8)).1 ?_
  refine callsIn_of_wp_marks Tryd.func9 rfl trivial ?_ rfl
  simp only [Tryd.ntmps9, List.size_toArray, List.length_cons, List.length_nil, Nat.reduceAdd, Nat.reduceSub, Array.replicate_succ, Array.replicate_zero, List.push_toArray, List.append_toArray, List.nil_append, List.cons_append]
  have KA := Lib.hid (fun u => all_calls s u)
  obtain ⟨F, hF⟩ : ∃ F, fmtL B = F := ⟨_, rfl⟩
  rw [hF]
  have HF := Lib.hid hF
  have HKH := Lib.hid KH
  have HT := Lib.hid HT
  clear hF KH
  gi_wp2_with fail
  refine ⟨trivial, (callsIn_wide.2 (KA.out _)).mono ?_⟩
  rintro e w1 ⟨rfl, rfl⟩
  have bR : Boxed ((W.alloc (.cells #[.int .i64 0] 3)).alloc (.cells #[.string s] 9)) W.heap.size 3 (.int .i64 0) := (Boxed.new W _ _).alloc _
  have bS := Boxed.new (W.alloc (.cells #[.int .i64 0] 3)) 9 (.string s)
  have g1 := gb_trans (World.grownBy_alloc W (.cells #[.int .i64 0] 3) none) (World.grownBy_alloc _ (.cells #[.string s] 9) none)
  rw [size_alloc] at bS
  rw [size_alloc]
  have hz : ((W.alloc (.cells #[.int .i64 0] 3)).alloc (.cells #[.string s] 9)).heap.size = W.heap.size + 2 := by rw [size_alloc, size_alloc]
  obtain ⟨w0, hw0⟩ : ∃ w0, (W.alloc (.cells #[.int .i64 0] 3)).alloc (.cells #[.string s] 9) = w0 := ⟨_, rfl⟩
  rw [hw0] at bR bS g1 hz ⊢
  have T1 : OrdT w0 := HT.out.grown g1 (fun b e => by cases e)
  clear hw0 KA
  gi_wp2
  refine wpIn_rangeFunc_ownF rfl (by decide) (gf := 16) (lb := #[.pointer (some ⟨W.heap.size + 1, 0, none⟩)]) rfl trivial (enters_of Tryd.func16 (by kernel_rfl) rfl)
    (all_stops 7 (by decide) s B (W.heap.size + 1) w0 bS T1 HKH.out) Kb.trans (kb_b (by omega)) (Below.refl _ _) (fun _ => rfl)
    (fun pre X => (pre = [] ∧ Boxed X W.heap.size 3 (.int .i64 0)) ∧ W.grownBy X none)
    (fun c pre X => ((c = .ret ∧ ∃ x, pre = [x]) ∧ Boxed X W.heap.size 3 (.int .i64 (pre.headD 0 : Nat))) ∧ W.grownBy X none)
    (((ownFrom_pure _ _).and ((boxed_own _ _ _).from _)).and (own_gb (by omega)))
    (fun c => ((ownFrom_pure _ _).and ((boxed_own _ _ _).from _)).and (own_gb (by omega)))
    ⟨⟨rfl, bR⟩, g1⟩
    (fun x => { tmps := #[.string s, undef, .pointer (some ⟨W.heap.size, 0, none⟩), .int .i64 (x : Nat), .string s, .func (.func 16) #[] #[.pointer (some ⟨W.heap.size + 1, 0, none⟩)], .int .i64 (x : Nat), undef], defers := [] }) ?assign ?body ?done ?stop
  case assign =>
    intro l x X K hK
    gi_wp2
    exact hK
  case body =>
    rintro l pre x X ⟨⟨rfl, b⟩, g⟩ _
    have c0 := b.cell
    have f0 := b.frozen
    have HB := Lib.hid b
    have HG := Lib.hid g
    clear b g
    gi_wp2
    exact ⟨KeepsOthers.setCell _ _ _, ⟨⟨rfl, x, rfl⟩, HB.out.set _⟩, gb_own HG.out (Nat.le_refl _) (gb_set _ _ _ _)⟩
  case done =>
    rintro D xs X hD hxs ⟨⟨rfl, b⟩, g⟩ hK
    have c0 := b.cell
    have f0 := b.frozen
    have HB := Lib.hid b
    have HG := Lib.hid g
    clear b g
    gi_wp2
    have hK' := (KeepsOthers.setCell X ⟨W.heap.size, 0, none⟩ (.int .i64 0)).same D _ hK rfl
    refine ⟨by simp, .inl ⟨_, _, rfl, run_takeDeferred hK', ?_⟩⟩
    have hc5 := cell_kept (HB.out.set (.int .i64 0)).cell (grownBy_putObj' _ D (.deferred none)) (fun r e => by cases e; exact ⟨_, hK', rfl⟩)
    refine ⟨.int .i64 0, ?_, ?_, gb_own (gb_own HG.out (Nat.le_refl _) (gb_set _ _ _ _)) (by omega) (put_gb _ D _)⟩
    · simp [results, Tryd.f9, go_sem, hc5]
    · rw [← HF.out]
      unfold fmtL
      rw [← hxs]
      rfl
  case stop =>
    rintro D c pre X hD hpre ⟨⟨⟨rfl, x, rfl⟩, b⟩, g⟩ hK
    have HB := Lib.hid b
    have HG := Lib.hid g
    clear b g
    gi_wp2
    refine ⟨by simp, .inl ⟨_, _, rfl, run_takeDeferred hK, ?_⟩⟩
    have hc5 : (X.putObj D (.deferred none)).cell? ⟨W.heap.size, 0, none⟩ = some (.int .i64 (x : Nat)) := cell_kept HB.out.cell (grownBy_putObj' _ D (.deferred none)) (fun r e => by cases e; exact ⟨_, hK, rfl⟩)
    refine ⟨.int .i64 (x : Nat), ?_, ?_, gb_own HG.out (by omega) (put_gb _ D _)⟩
    · simp [results, Tryd.f9, go_sem, hc5]
    · rw [← HF.out]
      unfold fmtL
      obtain ⟨t, ht⟩ := hpre
      rw [← ht]
      rfl

end Go.Proofs.YtibbebglbcjnmaaDoor.Sn
