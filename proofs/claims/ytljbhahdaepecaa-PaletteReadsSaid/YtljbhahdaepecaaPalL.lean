/- Layer 10: a palette's Of and Free, walked; what a freed one answers. -/
import Derived.Test.YtljbhahdaepecaaPalK
import Derived.Test.YtljbhahdaepecaaBuf7
namespace Go.Proofs.Ytljbhahdaepecaa.Pa
open Go.ChangeShapes Go.WideShapes Go.ChangeAt Go.RowKit
open Go.Proofs.Ytljbhahdaepecaa.Sc Go.Proofs.Ytljbhahdaepecaa.Le
set_option linter.unusedVariables false

/-- A byte of a text, as a number. -/
def bt (s : ByteArray) (j : Nat) : Int := ((s.data.toList.getD j 0).toNat : Int)
theorem bt_ext (s z : ByteArray) (i k : Nat) (hz : s.extract i (i + 4) = z) (h : k < z.size) (hk : k < 4) : ((z[k]'h).toNat : Int) = bt s (i + k) := by
  have h1 := Go.Proofs.byte_at z k h
  have h3 : z.data.toList = (s.data.toList.drop i).take (i + 4 - i) := by rw [← hz, Lib.extract_data]
  rw [h3, List.getElem?_take_of_lt (by omega), List.getElem?_drop] at h1
  unfold bt
  rw [List.getD_eq_getElem?_getD, h1]
  rfl

set_option maxRecDepth 100000 in
theorem pof_no (p b : Nat) (n : Nat) (i : Int) (W : World) (h : W.heap[p]? = some (.cells (palCells b n) 82 (0, 0))) (hi : i < 0 ∨ (n : Int) ≤ i) :
    Calls Try.prog 20 #[.pointer (some ⟨p, 0, none⟩), .int .i64 i] W
      fun e w' => e = .returned (.tuple #[.agg #[.int .u8 0, .int .u8 0, .int .u8 0, .int .u8 0], .bool false]) ∧ W.grownBy w' none := by
  have c1 : W.cell? ⟨p, 1, none⟩ = some (.int .i64 n) := blk_cell h 1
  have plt := blk_lt h
  have hc : (decide (i < 0) = true) ∨ (decide (i < 0) = false ∧ (n : Int) ≤ i) := by
    by_cases h1 : i < 0
    · exact .inl (decide_eq_true h1)
    · exact .inr ⟨decide_eq_false h1, by omega⟩
  clear h hi
  rcases hc with h1 | ⟨h1, h2⟩
  all_goals
    go_enter Try.func20, Try.ntmps20
    go_wp2
    refine bodyPost_ret (v := .tuple #[.agg #[.int .u8 0, .int .u8 0, .int .u8 0, .int .u8 0], .bool false]) (by rw [results_cell_tmp (fn := Try.f20) rfl]; go_simp) rfl ⟨rfl, ?_⟩
    exact World.grownBy_alloc _ _ _

set_option maxRecDepth 100000 in
theorem pof_yes (p b l g n most i : Nat) (S : ByteArray) (W : World) (h : Po p b l g n most S W) (hi : i < n) :
    Calls Try.prog 20 #[.pointer (some ⟨p, 0, none⟩), .int .i64 i] W
      fun e w' => e = .returned (.tuple #[.agg #[.int .u8 (bt S (4 * i)), .int .u8 (bt S (4 * i + 1)), .int .u8 (bt S (4 * i + 2)), .int .u8 (bt S (4 * i + 3))], .bool true]) ∧ W.grownBy w' none := by
  have hin : 4 * i + 4 ≤ S.size := by have := h.size; have := h.le; omega
  have P := fun w h => Bu.get_yes b l g S (4 * i) 4 w h hin
  have e4 : ((4 * i : Nat) : Int) = 4 * (i : Int) := by omega
  have e5 : ((4 : Nat) : Int) = 4 := rfl
  simp only [e4, e5] at P
  obtain ⟨z, hz⟩ : ∃ z, S.extract (4 * i) (4 * i + 4) = z := ⟨_, rfl⟩
  have hz4 : z.size = 4 := by rw [← hz, ByteArray.size_extract]; omega
  have t0 := bt_ext S z (4 * i) 0 hz (by omega) (by omega)
  have t1 := bt_ext S z (4 * i) 1 hz (by omega) (by omega)
  have t2 := bt_ext S z (4 * i) 2 hz (by omega) (by omega)
  have t3 := bt_ext S z (4 * i) 3 hz (by omega) (by omega)
  rw [Nat.add_zero] at t0
  simp only [hz] at P
  have P' := Lib.hid P
  have H := Lib.hid h
  obtain ⟨x0, e0⟩ : ∃ x, bt S (4 * i) = x := ⟨_, rfl⟩
  obtain ⟨x1, e1⟩ : ∃ x, bt S (4 * i + 1) = x := ⟨_, rfl⟩
  obtain ⟨x2, e2⟩ : ∃ x, bt S (4 * i + 2) = x := ⟨_, rfl⟩
  obtain ⟨x3, e3⟩ : ∃ x, bt S (4 * i + 3) = x := ⟨_, rfl⟩
  rw [e0] at t0 ⊢
  rw [e1] at t1 ⊢
  rw [e2] at t2 ⊢
  rw [e3] at t3 ⊢
  have c0 := h.c0
  have c1 := h.c1
  have plt := blk_lt h.blk
  have nbig : (i : Int) ≤ 65536 := by have := h.big; have := h.le; omega
  have hin' : (i : Int) < n := by omega
  have d0 : decide ((i : Int) < 0) = false := decide_eq_false (by omega)
  have d1 : decide ((n : Int) ≤ (i : Int)) = false := decide_eq_false (by omega)
  have d2 : decide (n ≤ i) = false := decide_eq_false (by omega)
  clear P h hin e4 e5 hz e0 e1 e2 e3
  go_enter Try.func20, Try.ntmps20
  go_wp2_with fail
  have hR : (W.alloc (.cells #[.int .u8 0, .int .u8 0, .int .u8 0, .int .u8 0] 24)).heap[W.heap.size]? = some (.cells #[.int .u8 0, .int .u8 0, .int .u8 0, .int .u8 0] 24 (0, 0)) := blk_at
  have hG := World.grownBy_alloc W (.cells #[.int .u8 0, .int .u8 0, .int .u8 0, .int .u8 0] 24) none
  generalize W.alloc (.cells #[.int .u8 0, .int .u8 0, .int .u8 0, .int .u8 0] 24) = w1 at hR hG ⊢
  have q0 : w1.cell? ⟨W.heap.size, 0, none⟩ = some (.int .u8 0) := blk_cell hR 0
  have q1 : w1.cell? ⟨W.heap.size, 1, none⟩ = some (.int .u8 0) := blk_cell hR 1
  have q2 : w1.cell? ⟨W.heap.size, 2, none⟩ = some (.int .u8 0) := blk_cell hR 2
  have q3 : w1.cell? ⟨W.heap.size, 3, none⟩ = some (.int .u8 0) := blk_cell hR 3
  have f0 := blk_free hR 0
  have f1 := blk_free hR 1
  have f2 := blk_free hR 2
  have f3 := blk_free hR 3
  have HG := Lib.hid hG
  have Ph := Lib.hid (P'.out w1 (H.out.buf.grown hG (by simp) (by simp)))
  clear hR hG
  refine Ph.out.mono ?_
  rintro e w' ⟨rfl, rfl⟩
  go_wp2_with fail
  go_region
  go_wp2
  refine bodyPost_ret (v := .tuple #[.agg #[.int .u8 x0, .int .u8 x1, .int .u8 x2, .int .u8 x3], .bool true]) (by rw [results_cell_tmp (fn := Try.f20) rfl]; go_simp) rfl ⟨rfl, ?_⟩
  exact gb_trans (gb_own (gb_own (gb_own (gb_own HG.out (Nat.le_refl _) (gb_set _ _ _ _)) (Nat.le_refl _) (gb_set _ _ _ _)) (Nat.le_refl _) (gb_set _ _ _ _)) (Nat.le_refl _) (gb_set _ _ _ _)) (gb_drew _ _)

theorem tn_of {a b : World} {S : List Nat} (h : Bu.Tn a b S) : Tn a b S := ⟨h.os, h.tape, h.output, h.size, h.block⟩

set_option maxRecDepth 100000 in
theorem pfree_yes (p b l g n most : Nat) (S : ByteArray) (x : St) (W : World) (h : Po p b l g n most S W) (hl : Led l x.ls W) (ok : x.Ok) :
    Calls Try.prog 21 #[.pointer (some ⟨p, 0, none⟩)] W
      fun e w' => e = .returned (.bool true) ∧ (w'.heap[p]? = some (.cells (palCells b 0) 82 (0, 0)) ∧ Bu.BShut b l w' ∧ Led l (x.give S.size).1.ls w') ∧ Tn W w' [p, b, l] := by
  have c0 := h.c0
  have c1 := h.c1
  have pf := blk_free h.blk 1
  have hp : (W.setCell ⟨p, 1, none⟩ (.int .i64 0)).heap[p]? = some (.cells (palCells b 0) 82 (0, 0)) := (blk_set h.blk 1 _).trans rfl
  have K := Lib.hid (Bu.free_yes b l g S x (W.setCell ⟨p, 1, none⟩ (.int .i64 0)) (h.buf.grown (gb_set _ _ _ _) (by simpa using fun e => h.pb e.symm) (by simpa using fun e => h.pg e.symm)) (hl.grown (gb_set _ _ _ _) (by simpa using fun e => h.pl e.symm)) ok)
  have HP := Lib.hid hp
  have hpb := h.pb
  have hpl := h.pl
  clear h hl ok hp
  go_enter Try.func21, Try.ntmps21
  go_wp2_with fail
  refine K.out.mono ?_
  rintro e w1 ⟨rfl, ⟨h1, h2⟩, t⟩
  have HX := Lib.hid (show w1.heap[p]? = some (.cells (palCells b 0) 82 (0, 0)) from (t.block p (blk_lt HP.out) (by simp [hpb, hpl])).trans HP.out)
  have HY := Lib.hid (And.intro h1 h2)
  have HT := Lib.hid ((Tn.set W p 1 (.int .i64 0) (S := [p, b, l]) (by simp)).trans ((tn_of t).mono (by simp)))
  clear h1 h2 t
  go_wp2
  go_ret
  exact ⟨rfl, ⟨HX.out, HY.out⟩, HT.out⟩

set_option maxRecDepth 100000 in
theorem pfree_no (p b l : Nat) (W : World) (h : W.heap[p]? = some (.cells (palCells b 0) 82 (0, 0))) (hb : Bu.BShut b l W) (hpb : p ≠ b) :
    Calls Try.prog 21 #[.pointer (some ⟨p, 0, none⟩)] W fun e w' => e = .returned (.bool false) ∧ Tn W w' [p] := by
  have c0 : W.cell? ⟨p, 0, none⟩ = some (.pointer (some ⟨b, 0, none⟩)) := blk_cell h 0
  have c1 : W.cell? ⟨p, 1, none⟩ = some (.int .i64 0) := blk_cell h 1
  have pf := blk_free h 1
  have K := Lib.hid (Bu.free_no b l (W.setCell ⟨p, 1, none⟩ (.int .i64 0)) (hb.grown (gb_set _ _ _ _) (by simpa using fun e => hpb e.symm)))
  clear h hb
  go_enter Try.func21, Try.ntmps21
  go_wp2_with fail
  refine K.out.mono ?_
  rintro e w1 ⟨rfl, g1⟩
  have HT := Lib.hid ((Tn.set W p 1 (.int .i64 0) (S := [p]) (by simp)).trans (Tn.gb g1 (by simp)))
  clear g1
  go_wp2
  go_ret
  exact ⟨rfl, HT.out⟩

set_option maxRecDepth 100000 in
theorem add_freed (p b l : Nat) (c0 c1 c2 c3 : Int) (W : World) (h : W.heap[p]? = some (.cells (palCells b 0) 82 (0, 0))) (hb : Bu.BShut b l W) :
    Calls Try.prog 15 #[.pointer (some ⟨p, 0, none⟩), .agg #[.int .u8 c0, .int .u8 c1, .int .u8 c2, .int .u8 c3]] W fun e w' => e = .returned (.bool false) ∧ W.grownBy w' none := by
  have KL : ∀ u, Bu.BShut b l u → u.heap[p]? = some (.cells (palCells b 0) 82 (0, 0)) → Calls Try.prog 28 #[.pointer (some ⟨p, 0, none⟩)] u fun e w' => e = .returned (.int .i64 0) ∧ u.grownBy w' none := fun u hu hp => by
    have KQ : ∀ k, Calls Try.prog 30 #[.pointer (some ⟨b, 0, none⟩)] (u.drewN k) fun e w' => e = .returned (.int .i64 0) ∧ w' = u.drewN k := fun k =>
      (Bu.len_calls b l 0 false ByteArray.empty (u.drewN k) (.inr ⟨rfl, rfl, hu.grown (gb_drewN u k none) (by simp)⟩)).mono (fun _ _ ⟨a, b⟩ => ⟨a, b.symm⟩)
    have c0 : u.cell? ⟨p, 0, none⟩ = some (.pointer (some ⟨b, 0, none⟩)) := blk_cell hp 0
    have c1 : u.cell? ⟨p, 1, none⟩ = some (.int .i64 0) := blk_cell hp 1
    have KQ' := Lib.hid KQ
    clear KQ hu hp
    go_enter Try.func28, Try.ntmps28
    go_wp2
    go_quiet ((go_at_call 30; exact Calls.quiet_of_same (KQ'.out _)))
    go_wp2
    go_ret
    exact ⟨rfl, gb_drewN _ _ _⟩
  have KL' := Lib.hid KL
  have H := Lib.hid h
  have HB := Lib.hid hb
  clear KL h hb
  go_enter Try.func15, Try.ntmps15
  go_wp2_with fail
  have ga := World.grownBy_alloc W (.cells #[.int .u8 c0, .int .u8 c1, .int .u8 c2, .int .u8 c3] 24) none
  refine (KL'.out _ (HB.out.grown ga (by simp)) (old0 ga H.out (blk_lt H.out) (by simp))).mono ?_
  rintro e w1 ⟨rfl, g1⟩
  have G := Lib.hid (gb_trans ga g1)
  clear ga g1
  go_wp2
  go_ret
  exact ⟨rfl, G.out⟩

end Go.Proofs.Ytljbhahdaepecaa.Pa
