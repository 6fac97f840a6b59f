/- Layer 24: the law of directories, walked (written by wip/gen/idc.py). -/
import Derived.Test.YtajbpcaghmcplaaIdR
import Derived.Laws.Concat
namespace Go.Proofs.Ytajbpcaghmcplaa.Id
open Go.ChangeShapes Go.WideShapes Go.ChangeAt Go.RowKit
open Go.Proofs.Ytajbpcaghmcplaa.Le Go.Proofs.Ytajbpcaghmcplaa.Sr Go.Proofs.Ytajbpcaghmcplaa.Dh
set_option linter.unusedVariables false

theorem reads_far (A B : ByteArray) (W : World) (h : 600 < B.size ∨ 50 < A.size) :
    Calls Try.prog 3 #[.string A, .string B] W fun e w' => e = .returned (.bool true) ∧ W.grownBy w' none := by
  have KA := Lib.hid (fun u => awake_calls u)
  by_cases h1 : 600 < B.size
  · have d0 : decide ((600 : Int) < B.size) = true := decide_eq_true (by omega)
    clear h h1
    go_enter Try.func3, Try.ntmps3
    go_wp2_with fail
    refine (KA.out _).mono ?_
    rintro e w1 ⟨rfl, g1⟩
    have G1 := Lib.hid g1
    clear g1
    go_wp2
    go_ret
    exact ⟨rfl, G1.out⟩
  · have d0 : decide ((600 : Int) < B.size) = false := decide_eq_false (by omega)
    have d1 : decide ((50 : Int) < A.size) = true := decide_eq_true (by omega)
    clear h h1
    go_enter Try.func3, Try.ntmps3
    go_wp2_with fail
    refine (KA.out _).mono ?_
    rintro e w1 ⟨rfl, g1⟩
    have G1 := Lib.hid g1
    clear g1
    go_wp2
    go_ret
    exact ⟨rfl, G1.out⟩

set_option maxRecDepth 100000 in
set_option maxHeartbeats 4000000 in
theorem reads_bad (A B : ByteArray) (W : World) (hA : A.size ≤ 50) (hB : B.size ≤ 600) (n q k a : Nat) (hn : n ≤ 100) (hk : 1 ≤ k) (ha : a ≤ 1000) (KC : DirO (A ++ B) A.size (LW 1000 0) n q Z9 #[.int .i64 (k : Nat), .int .i64 4, .int .i64 ((A.size + a : Nat))]) (KD : DDir B (rdV false 0 0 0 0 0 0 0 0 (k : Nat) (a : Nat))) :
    Calls Try.prog 3 #[.string A, .string B] W fun e w' => e = .returned (.bool true) ∧ W.grownBy w' none := by
  have NB := Lib.hid hn
  have f1 : (((k : Nat) : Int) != 0) = true := by rw [bne_iff_ne]; omega
  have f2 : ¬ ((k : Nat) : Int) = 0 := by omega
  obtain ⟨v, hv⟩ : ∃ v : Int, ((A.size + a : Nat) : Int) = v := ⟨_, rfl⟩
  have wv : IntKind.i64.wrap ((A.size : Int) + (a : Nat)) = v := by rw [IntWalk.i64_in _ (by omega)]; omega
  have wv2 : (A.size : Int) + (a : Nat) = v := by omega
  rw [hv] at KC
  unfold Z9 at KC
  unfold rdV at KD
  clear hv hn hk
  have d0 : decide ((600 : Int) < B.size) = false := decide_eq_false (by omega)
  have d1 : decide ((50 : Int) < A.size) = false := decide_eq_false (by omega)
  have hTs : (A ++ B).size = A.size + B.size := ByteArray.size_append
  have ad : ∀ w, (Op.stringOp .add A B).run Try.prog w = .ok (.string (A ++ B)) w := fun w => run_string_add_sum w A B (by omega)
  have wadd : IntKind.i64.wrap ((A.size : Int) + (B.size : Int)) = ((A ++ B).size : Int) := by rw [IntWalk.i64_in _ (by omega)]; omega
  have hpT : A.size ≤ (A ++ B).size := by omega
  have hTb : (A ++ B).size ≤ 650 := by omega
  obtain ⟨T, hT0⟩ : ∃ T, A ++ B = T := ⟨_, rfl⟩
  rw [hT0] at ad wadd hpT hTb KC
  have KA := Lib.hid (fun u => awake_calls u)
  have KD := Lib.hid KD
  have KC := Lib.hid KC
  have HPT := Lib.hid (And.intro hpT hTb)
  have e0 : (1000 : Int) = 1000 := rfl
  clear hTs hT0 hpT hTb e0
  go_enter Try.func3, Try.ntmps3
  go_wp2_with fail
  refine (wnew_calls 1000 (by decide) _).mono ?_
  rintro e w2 ⟨l, rfl, L2, g2, hl⟩
  have H2 := Lib.hid L2
  have G2 := Lib.hid g2
  have l2 := L2.lt
  have hl2 := Lib.hid hl
  clear L2 g2 hl
  go_wp2_with fail
  refine (snew_calls l T _ (by have := HPT.out; omega)).mono ?_
  rintro e w3 ⟨c, rfl, S3, g3, hc⟩
  have H3 := Lib.hid (H2.out.grown g3 (by simp))
  have G3 := Lib.hid (gb_trans G2.out g3)
  have S3' := Lib.hid (S3 l2)
  have hW := G2.out.size
  have hl3 := hl2.out
  clear S3 g3 H2 G2
  go_wp2_with fail
  refine (seek_yes c l T 0 0 T.size A.size _ S3'.out (Nat.zero_le _) HPT.out.1).mono ?_
  rintro e w4 ⟨rfl, S4, g4⟩
  have hcl := S4.bl
  have H4 := Lib.hid (H3.out.grown g4 (by simp; exact fun e => hcl e.symm))
  have HS4 := Lib.hid (show Sl c l T A.size 0 T.size (LW 1000 0) w4 from ⟨S4, H4.out, LW_ok (by decide) (by decide) (by decide)⟩)
  have G4 := Lib.hid (gb_own G3.out (by omega) g4)
  have hW3 := G3.out.size
  clear S4 g4 H3 S3' G3 H4
  go_wp2_with fail
  refine (KC.out c l 0 _ HS4.out rfl).mono ?_
  rintro e w5 (⟨-, rfl, S5, t5⟩ | ⟨h9, _⟩)
  rotate_left
  · have := NB.out
    have h9' : (1000 : Int) < 0 + ((n : Nat) : Int) := h9
    omega
  have G5 := Lib.hid (Tn.own G4.out t5 (by simp; omega))
  have HS5 := Lib.hid S5
  clear S5 t5 G4 HS4 KC
  go_upto_region 7 with fail
  have G6 := Lib.hid (gb_trans (gb_trans G5.out (World.grownBy_alloc w5 (.cells #[.bool false, .int .i64 0, .int .i64 0, .int .i64 0, .int .i64 0, .int .i64 0, .int .i64 0, .int .i64 0, .int .i64 0] 35) none)) (World.grownBy_alloc _ (.cells #[.int .i64 (k : Nat), .int .i64 4, .int .i64 v] 37) none))
  have D6 : ((w5.alloc (.cells #[.bool false, .int .i64 0, .int .i64 0, .int .i64 0, .int .i64 0, .int .i64 0, .int .i64 0, .int .i64 0, .int .i64 0] 35)).alloc (.cells #[.int .i64 (k : Nat), .int .i64 4, .int .i64 v] 37)).heap[w5.heap.size]? = some (.cells #[.bool false, .int .i64 0, .int .i64 0, .int .i64 0, .int .i64 0, .int .i64 0, .int .i64 0, .int .i64 0, .int .i64 0] 35 (0, 0)) := blk_al blk_at _
  have F6 : ((w5.alloc (.cells #[.bool false, .int .i64 0, .int .i64 0, .int .i64 0, .int .i64 0, .int .i64 0, .int .i64 0, .int .i64 0, .int .i64 0] 35)).alloc (.cells #[.int .i64 (k : Nat), .int .i64 4, .int .i64 v] 37)).heap[w5.heap.size + 1]? = some (.cells #[.int .i64 (k : Nat), .int .i64 4, .int .i64 v] 37 (0, 0)) := by rw [← size_alloc w5 (.cells #[.bool false, .int .i64 0, .int .i64 0, .int .i64 0, .int .i64 0, .int .i64 0, .int .i64 0, .int .i64 0, .int .i64 0] 35)]; exact blk_at
  obtain ⟨X, hX⟩ : ∃ X, w5.heap.size = X := ⟨_, rfl⟩
  rw [hX] at D6 F6 ⊢
  generalize ((w5.alloc _).alloc _) = w6 at G6 D6 F6 ⊢
  clear hX HS5 G5
  go_wp2_with fail
  refine (KD.out _).mono ?_
  rintro e w7 ⟨rfl, g7⟩
  have D7 := old0 g7 D6 (blk_lt D6) (by simp)
  have F7 := old0 g7 F6 (blk_lt F6) (by simp)
  have G7 := Lib.hid (gb_trans G6.out g7)
  clear D6 F6 G6 g7
  have xd0 := blk_cell D7 0
  have xd1 := blk_cell D7 1
  have xd2 := blk_cell D7 2
  have xd3 := blk_cell D7 3
  have xd4 := blk_cell D7 4
  have xd5 := blk_cell D7 5
  have xd6 := blk_cell D7 6
  have xd7 := blk_cell D7 7
  have xd8 := blk_cell D7 8
  have xf0 := blk_cell F7 0
  have xf1 := blk_cell F7 1
  have xf2 := blk_cell F7 2
  simp only [List.getElem?_toArray, List.getElem?_cons_succ, List.getElem?_cons_zero] at xd0 xd1 xd2 xd3 xd4 xd5 xd6 xd7 xd8 xf0 xf1 xf2
  have ld := blk_lt D7
  have lf := blk_lt F7
  clear D7 F7 KD
  go_wp2_with fail
  refine (KA.out _).mono ?_
  rintro e w8 ⟨rfl, g8⟩
  have G8 := Lib.hid (gb_trans (gb_trans G7.out (World.grownBy_alloc _ _ none)) g8)
  clear g8
  go_wp2
  go_ret
  exact ⟨rfl, G8.out⟩

/-- What the law has in memory: the directory, the fault, the document's, the entry that is wanted. -/
structure Lw (W : World) (X Y Z : Nat) (DV RV EV : Array Value) (w : World) : Prop where
  d : w.heap[X]? = some (.cells DV 35 (0, 0))
  f : w.heap[X + 1]? = some (.cells #[.int .i64 0, .int .i64 0, .int .i64 0] 37 (0, 0))
  r : w.heap[Y]? = some (.cells RV 43 (0, 0))
  e : w.heap[Z]? = some (.cells EV 33 (0, 0))
  g : W.grownBy w none
theorem Lw.gb {W w w' : World} {X Y Z : Nat} {DV RV EV : Array Value} (h : Lw W X Y Z DV RV EV w) (g : w.grownBy w' none) : Lw W X Y Z DV RV EV w' :=
  ⟨old0 g h.d (blk_lt h.d) (by simp), old0 g h.f (blk_lt h.f) (by simp), old0 g h.r (blk_lt h.r) (by simp), old0 g h.e (blk_lt h.e) (by simp), gb_trans h.g g⟩

set_option maxRecDepth 100000 in
set_option maxHeartbeats 8000000 in
theorem reads_good (A B : ByteArray) (W : World) (hA : A.size ≤ 50) (hB : B.size ≤ 600) (cu : Bool) (c0 r w h a b s pl : Nat) (hc : 6 + 16 * c0 ≤ 600) (hpl : pl ≤ 600) (KC : DirO (A ++ B) A.size (LW 1000 0) (1 + c0) (A.size + 6 + 16 * c0) (dB cu c0 r w h a b s (A.size + pl)) #[.int .i64 0, .int .i64 0, .int .i64 0]) (KD : DDir B (rdV cu (c0 : Nat) (r : Nat) (w : Nat) (h : Nat) (a : Nat) (b : Nat) (s : Nat) (pl : Nat) 0 0)) :
    Calls Try.prog 3 #[.string A, .string B] W fun e w' => e = .returned (.bool true) ∧ W.grownBy w' none := by
  have NB := Lib.hid (show 1 + c0 ≤ 100 from by omega)
  obtain ⟨v, hv⟩ : ∃ v : Int, ((A.size + pl : Nat) : Int) = v := ⟨_, rfl⟩
  have wv : IntKind.i64.wrap ((pl : Int) + (A.size : Nat)) = v := by rw [IntWalk.i64_in _ (by omega)]; omega
  have wv2 : (pl : Int) + (A.size : Nat) = v := by omega
  have wv3 : wrap64 v = v := by unfold wrap64; omega
  obtain ⟨en, hen⟩ : ∃ en, A.size + 6 + 16 * c0 = en := ⟨_, rfl⟩
  have we1 : IntKind.i64.wrap (16 * (c0 : Int)) = 16 * (c0 : Int) := IntWalk.i64_in _ (by omega)
  have we2 : IntKind.i64.wrap ((A.size : Int) + 6) = (A.size : Int) + 6 := IntWalk.i64_in _ (by omega)
  have we3 : IntKind.i64.wrap ((A.size : Int) + 6 + 16 * (c0 : Int)) = (en : Int) := by rw [IntWalk.i64_in _ (by omega)]; omega
  have we4 : (A.size : Int) + 6 + 16 * (c0 : Int) = (en : Int) := by omega
  unfold dB at KC
  rw [hv, hen] at KC
  unfold rdV at KD
  have KP := Lib.hid (fun u => plain_calls (w : Nat) (h : Nat) (a : Nat) (b : Nat) (s : Nat) (pl : Nat) u)
  clear hv hen hc hpl
  have d0 : decide ((600 : Int) < B.size) = false := decide_eq_false (by omega)
  have d1 : decide ((50 : Int) < A.size) = false := decide_eq_false (by omega)
  have hTs : (A ++ B).size = A.size + B.size := ByteArray.size_append
  have ad : ∀ w, (Op.stringOp .add A B).run Try.prog w = .ok (.string (A ++ B)) w := fun w => run_string_add_sum w A B (by omega)
  have wadd : IntKind.i64.wrap ((A.size : Int) + (B.size : Int)) = ((A ++ B).size : Int) := by rw [IntWalk.i64_in _ (by omega)]; omega
  have hpT : A.size ≤ (A ++ B).size := by omega
  have hTb : (A ++ B).size ≤ 650 := by omega
  obtain ⟨T, hT0⟩ : ∃ T, A ++ B = T := ⟨_, rfl⟩
  rw [hT0] at ad wadd hpT hTb KC
  have KA := Lib.hid (fun u => awake_calls u)
  have KD := Lib.hid KD
  have KC := Lib.hid KC
  have HPT := Lib.hid (And.intro hpT hTb)
  have e0 : (1000 : Int) = 1000 := rfl
  clear hTs hT0 hpT hTb e0
  go_enter Try.func3, Try.ntmps3
  go_wp2_with fail
  refine (wnew_calls 1000 (by decide) _).mono ?_
  rintro e w2 ⟨l, rfl, L2, g2, hl⟩
  have H2 := Lib.hid L2
  have G2 := Lib.hid g2
  have l2 := L2.lt
  have hl2 := Lib.hid hl
  clear L2 g2 hl
  go_wp2_with fail
  refine (snew_calls l T _ (by have := HPT.out; omega)).mono ?_
  rintro e w3 ⟨c, rfl, S3, g3, hc⟩
  have H3 := Lib.hid (H2.out.grown g3 (by simp))
  have G3 := Lib.hid (gb_trans G2.out g3)
  have S3' := Lib.hid (S3 l2)
  have hW := G2.out.size
  have hl3 := hl2.out
  clear S3 g3 H2 G2
  go_wp2_with fail
  refine (seek_yes c l T 0 0 T.size A.size _ S3'.out (Nat.zero_le _) HPT.out.1).mono ?_
  rintro e w4 ⟨rfl, S4, g4⟩
  have hcl := S4.bl
  have H4 := Lib.hid (H3.out.grown g4 (by simp; exact fun e => hcl e.symm))
  have HS4 := Lib.hid (show Sl c l T A.size 0 T.size (LW 1000 0) w4 from ⟨S4, H4.out, LW_ok (by decide) (by decide) (by decide)⟩)
  have G4 := Lib.hid (gb_own G3.out (by omega) g4)
  have hW3 := G3.out.size
  clear S4 g4 H3 S3' G3 H4
  go_wp2_with fail
  refine (KC.out c l 0 _ HS4.out rfl).mono ?_
  rintro e w5 (⟨-, rfl, S5, t5⟩ | ⟨h9, _⟩)
  rotate_left
  · have := NB.out
    have h9' : (1000 : Int) < 0 + ((1 + c0 : Nat) : Int) := h9
    omega
  have G5 := Lib.hid (Tn.own G4.out t5 (by simp; omega))
  have HS5 := Lib.hid S5
  clear S5 t5 G4 HS4 KC
  go_upto_region 7 with fail
  have G6 := Lib.hid (gb_trans (gb_trans G5.out (World.grownBy_alloc w5 (.cells #[.bool cu, .int .i64 (c0 : Nat), .int .i64 (r : Nat), .int .i64 (w : Nat), .int .i64 (h : Nat), .int .i64 (a : Nat), .int .i64 (b : Nat), .int .i64 (s : Nat), .int .i64 v] 35) none)) (World.grownBy_alloc _ (.cells #[.int .i64 0, .int .i64 0, .int .i64 0] 37) none))
  have D6 : ((w5.alloc (.cells #[.bool cu, .int .i64 (c0 : Nat), .int .i64 (r : Nat), .int .i64 (w : Nat), .int .i64 (h : Nat), .int .i64 (a : Nat), .int .i64 (b : Nat), .int .i64 (s : Nat), .int .i64 v] 35)).alloc (.cells #[.int .i64 0, .int .i64 0, .int .i64 0] 37)).heap[w5.heap.size]? = some (.cells #[.bool cu, .int .i64 (c0 : Nat), .int .i64 (r : Nat), .int .i64 (w : Nat), .int .i64 (h : Nat), .int .i64 (a : Nat), .int .i64 (b : Nat), .int .i64 (s : Nat), .int .i64 v] 35 (0, 0)) := blk_al blk_at _
  have F6 : ((w5.alloc (.cells #[.bool cu, .int .i64 (c0 : Nat), .int .i64 (r : Nat), .int .i64 (w : Nat), .int .i64 (h : Nat), .int .i64 (a : Nat), .int .i64 (b : Nat), .int .i64 (s : Nat), .int .i64 v] 35)).alloc (.cells #[.int .i64 0, .int .i64 0, .int .i64 0] 37)).heap[w5.heap.size + 1]? = some (.cells #[.int .i64 0, .int .i64 0, .int .i64 0] 37 (0, 0)) := by rw [← size_alloc w5 (.cells #[.bool cu, .int .i64 (c0 : Nat), .int .i64 (r : Nat), .int .i64 (w : Nat), .int .i64 (h : Nat), .int .i64 (a : Nat), .int .i64 (b : Nat), .int .i64 (s : Nat), .int .i64 v] 35)]; exact blk_at
  have HS6 := Lib.hid (HS5.out.grown (gb_trans (World.grownBy_alloc w5 (.cells #[.bool cu, .int .i64 (c0 : Nat), .int .i64 (r : Nat), .int .i64 (w : Nat), .int .i64 (h : Nat), .int .i64 (a : Nat), .int .i64 (b : Nat), .int .i64 (s : Nat), .int .i64 v] 35) none) (World.grownBy_alloc _ (.cells #[.int .i64 0, .int .i64 0, .int .i64 0] 37) none)))
  obtain ⟨X, hX⟩ : ∃ X, w5.heap.size = X := ⟨_, rfl⟩
  rw [hX] at D6 F6 ⊢
  generalize ((w5.alloc _).alloc _) = w6 at G6 D6 F6 HS6 ⊢
  clear hX HS5 G5
  go_wp2_with fail
  refine (KD.out _).mono ?_
  rintro e w7 ⟨rfl, g7⟩
  go_upto_region 8 with fail
  have D8 := blk_al (old0 g7 D6 (blk_lt D6) (by simp)) (.cells #[.bool cu, .int .i64 (c0 : Nat), .int .i64 (r : Nat), .int .i64 (w : Nat), .int .i64 (h : Nat), .int .i64 (a : Nat), .int .i64 (b : Nat), .int .i64 (s : Nat), .int .i64 (pl : Nat), .int .i64 0, .int .i64 0] 43)
  have F8 := blk_al (old0 g7 F6 (blk_lt F6) (by simp)) (.cells #[.bool cu, .int .i64 (c0 : Nat), .int .i64 (r : Nat), .int .i64 (w : Nat), .int .i64 (h : Nat), .int .i64 (a : Nat), .int .i64 (b : Nat), .int .i64 (s : Nat), .int .i64 (pl : Nat), .int .i64 0, .int .i64 0] 43)
  have R8 : (w7.alloc (.cells #[.bool cu, .int .i64 (c0 : Nat), .int .i64 (r : Nat), .int .i64 (w : Nat), .int .i64 (h : Nat), .int .i64 (a : Nat), .int .i64 (b : Nat), .int .i64 (s : Nat), .int .i64 (pl : Nat), .int .i64 0, .int .i64 0] 43)).heap[w7.heap.size]? = some (.cells #[.bool cu, .int .i64 (c0 : Nat), .int .i64 (r : Nat), .int .i64 (w : Nat), .int .i64 (h : Nat), .int .i64 (a : Nat), .int .i64 (b : Nat), .int .i64 (s : Nat), .int .i64 (pl : Nat), .int .i64 0, .int .i64 0] 43 (0, 0)) := blk_at
  have G8 := Lib.hid (gb_trans G6.out (gb_trans g7 (World.grownBy_alloc w7 (.cells #[.bool cu, .int .i64 (c0 : Nat), .int .i64 (r : Nat), .int .i64 (w : Nat), .int .i64 (h : Nat), .int .i64 (a : Nat), .int .i64 (b : Nat), .int .i64 (s : Nat), .int .i64 (pl : Nat), .int .i64 0, .int .i64 0] 43) none)))
  have HS8 := Lib.hid (HS6.out.grown (gb_trans g7 (World.grownBy_alloc w7 (.cells #[.bool cu, .int .i64 (c0 : Nat), .int .i64 (r : Nat), .int .i64 (w : Nat), .int .i64 (h : Nat), .int .i64 (a : Nat), .int .i64 (b : Nat), .int .i64 (s : Nat), .int .i64 (pl : Nat), .int .i64 0, .int .i64 0] 43) none)))
  obtain ⟨Y, hY⟩ : ∃ Y, w7.heap.size = Y := ⟨_, rfl⟩
  rw [hY] at R8 ⊢
  generalize w7.alloc _ = w8 at D8 F8 R8 G8 HS8 ⊢
  clear hY D6 F6 G6 g7 HS6 KD
  have y0 := blk_cell R8 0
  have y1 := blk_cell R8 1
  have y2 := blk_cell R8 2
  have y3 := blk_cell R8 3
  have y4 := blk_cell R8 4
  have y5 := blk_cell R8 5
  have y6 := blk_cell R8 6
  have y7 := blk_cell R8 7
  have y8 := blk_cell R8 8
  have y9 := blk_cell R8 9
  have y10 := blk_cell R8 10
  simp only [List.getElem?_toArray, List.getElem?_cons_succ, List.getElem?_cons_zero] at y0 y1 y2 y3 y4 y5 y6 y7 y8 y9 y10
  have HD8 := Lib.hid D8
  have HF8 := Lib.hid F8
  have HR8 := Lib.hid R8
  clear D8 F8 R8
  go_wp2_with fail
  refine (KP.out _).mono ?_
  rintro e w9 ⟨rfl, g9⟩
  clear y0 y1 y2 y3 y4 y5 y6 y7 y8 y9 y10
  go_upto_region 12 with fail
  have I9 : Lw W X Y w9.heap.size #[.bool cu, .int .i64 (c0 : Nat), .int .i64 (r : Nat), .int .i64 (w : Nat), .int .i64 (h : Nat), .int .i64 (a : Nat), .int .i64 (b : Nat), .int .i64 (s : Nat), .int .i64 v] #[.bool cu, .int .i64 (c0 : Nat), .int .i64 (r : Nat), .int .i64 (w : Nat), .int .i64 (h : Nat), .int .i64 (a : Nat), .int .i64 (b : Nat), .int .i64 (s : Nat), .int .i64 (pl : Nat), .int .i64 0, .int .i64 0] #[.int .i64 (w : Nat), .int .i64 (h : Nat), .int .i64 (a : Nat), .int .i64 (b : Nat), .int .i64 (s : Nat), .int .i64 (pl : Nat)] (w9.alloc (.cells #[.int .i64 (w : Nat), .int .i64 (h : Nat), .int .i64 (a : Nat), .int .i64 (b : Nat), .int .i64 (s : Nat), .int .i64 (pl : Nat)] 33)) := ⟨blk_al (old0 g9 HD8.out (blk_lt HD8.out) (by simp)) _, blk_al (old0 g9 HF8.out (blk_lt HF8.out) (by simp)) _, blk_al (old0 g9 HR8.out (blk_lt HR8.out) (by simp)) _, blk_at, gb_trans G8.out (gb_trans g9 (World.grownBy_alloc _ _ none))⟩
  have S9 := Lib.hid (HS8.out.grown (gb_trans g9 (World.grownBy_alloc w9 (.cells #[.int .i64 (w : Nat), .int .i64 (h : Nat), .int .i64 (a : Nat), .int .i64 (b : Nat), .int .i64 (s : Nat), .int .i64 (pl : Nat)] 33) none)))
  have hXZ : X + 1 < w9.heap.size := blk_lt (old0 g9 HF8.out (blk_lt HF8.out) (by simp))
  have hYZ : Y < w9.heap.size := blk_lt (old0 g9 HR8.out (blk_lt HR8.out) (by simp))
  have hcZ : c < w9.heap.size := (HS8.out.grown g9).so.lt
  have hlZ : l < w9.heap.size := (HS8.out.grown g9).led.lt
  have hWZ : W.heap.size ≤ w9.heap.size := (gb_trans G8.out g9).size
  obtain ⟨Z, hZ⟩ : ∃ Z, w9.heap.size = Z := ⟨_, rfl⟩
  rw [hZ] at I9 hXZ hYZ hcZ hlZ hWZ ⊢
  generalize w9.alloc _ = w10 at I9 S9 ⊢
  have HI9 := Lib.hid I9
  clear hZ g9 HD8 HF8 HR8 G8 HS8 KP
  have z0 := blk_cell I9.e 0
  have z1 := blk_cell I9.e 1
  have z2 := blk_cell I9.e 2
  have z3 := blk_cell I9.e 3
  have z4 := blk_cell I9.e 4
  have z5 := blk_cell I9.e 5
  simp only [List.getElem?_toArray, List.getElem?_cons_succ, List.getElem?_cons_zero] at z0 z1 z2 z3 z4 z5
  have zz5 := blk_free I9.e 5
  have zl := blk_lt I9.e
  clear I9
  go_upto_region 13 with fail
  refine abs_w (R := fun u => Lw W X Y Z #[.bool cu, .int .i64 (c0 : Nat), .int .i64 (r : Nat), .int .i64 (w : Nat), .int .i64 (h : Nat), .int .i64 (a : Nat), .int .i64 (b : Nat), .int .i64 (s : Nat), .int .i64 v] #[.bool cu, .int .i64 (c0 : Nat), .int .i64 (r : Nat), .int .i64 (w : Nat), .int .i64 (h : Nat), .int .i64 (a : Nat), .int .i64 (b : Nat), .int .i64 (s : Nat), .int .i64 (pl : Nat), .int .i64 0, .int .i64 0] #[.int .i64 (w : Nat), .int .i64 (h : Nat), .int .i64 (a : Nat), .int .i64 (b : Nat), .int .i64 (s : Nat), .int .i64 v] u ∧ Sl c l T en 0 T.size (stp (LW 1000 0) (1 + c0)) u) ⟨⟨blk_other HI9.out.d (by omega), blk_other HI9.out.f (by omega), blk_other HI9.out.r (by omega), blk_set HI9.out.e 5 (.int .i64 v), gb_own HI9.out.g hWZ (gb_set _ _ _ _)⟩, S9.out.st (by omega) (by omega)⟩ (fun w11 I11 => ?_)
  have HI := Lib.hid I11.1
  have HS := Lib.hid I11.2
  clear z0 z1 z2 z3 z4 z5 zz5 zl HI9 S9
  have xd0 := blk_cell I11.1.d 0
  have xd1 := blk_cell I11.1.d 1
  have xd2 := blk_cell I11.1.d 2
  have xd3 := blk_cell I11.1.d 3
  have xd4 := blk_cell I11.1.d 4
  have xd5 := blk_cell I11.1.d 5
  have xd6 := blk_cell I11.1.d 6
  have xd7 := blk_cell I11.1.d 7
  have xd8 := blk_cell I11.1.d 8
  have xf0 := blk_cell I11.1.f 0
  have xf1 := blk_cell I11.1.f 1
  have xf2 := blk_cell I11.1.f 2
  have xr0 := blk_cell I11.1.r 0
  have xr1 := blk_cell I11.1.r 1
  have xr2 := blk_cell I11.1.r 2
  have xe0 := blk_cell I11.1.e 0
  have xe1 := blk_cell I11.1.e 1
  have xe2 := blk_cell I11.1.e 2
  have xe3 := blk_cell I11.1.e 3
  have xe4 := blk_cell I11.1.e 4
  have xe5 := blk_cell I11.1.e 5
  simp only [List.getElem?_toArray, List.getElem?_cons_succ, List.getElem?_cons_zero] at xd0 xd1 xd2 xd3 xd4 xd5 xd6 xd7 xd8 xf0 xf1 xf2 xr0 xr1 xr2 xe0 xe1 xe2 xe3 xe4 xe5
  clear I11 wv wv2 wv3 wadd ad d0 d1 we4
  have KAT := Lib.hid (at_calls c l T en 0 T.size _ HS.out.dr.so)
  go_region_held3 (fun u => u.cell? ⟨X, 0, none⟩ = some (.bool cu) ∧ u.cell? ⟨X, 1, none⟩ = some (.int .i64 (c0 : Nat)) ∧ u.cell? ⟨X, 2, none⟩ = some (.int .i64 (r : Nat)) ∧ u.cell? ⟨X, 3, none⟩ = some (.int .i64 (w : Nat)) ∧ u.cell? ⟨X, 4, none⟩ = some (.int .i64 (h : Nat)) ∧ u.cell? ⟨X, 5, none⟩ = some (.int .i64 (a : Nat)) ∧ u.cell? ⟨X, 6, none⟩ = some (.int .i64 (b : Nat)) ∧ u.cell? ⟨X, 7, none⟩ = some (.int .i64 (s : Nat)) ∧ u.cell? ⟨X, 8, none⟩ = some (.int .i64 v) ∧ u.cell? ⟨X + 1, 0, none⟩ = some (.int .i64 0) ∧ u.cell? ⟨X + 1, 1, none⟩ = some (.int .i64 0) ∧ u.cell? ⟨X + 1, 2, none⟩ = some (.int .i64 0) ∧ u.cell? ⟨Y, 0, none⟩ = some (.bool cu) ∧ u.cell? ⟨Y, 1, none⟩ = some (.int .i64 (c0 : Nat)) ∧ u.cell? ⟨Y, 2, none⟩ = some (.int .i64 (r : Nat)) ∧ u.cell? ⟨Z, 0, none⟩ = some (.int .i64 (w : Nat)) ∧ u.cell? ⟨Z, 1, none⟩ = some (.int .i64 (h : Nat)) ∧ u.cell? ⟨Z, 2, none⟩ = some (.int .i64 (a : Nat)) ∧ u.cell? ⟨Z, 3, none⟩ = some (.int .i64 (b : Nat)) ∧ u.cell? ⟨Z, 4, none⟩ = some (.int .i64 (s : Nat)) ∧ u.cell? ⟨Z, 5, none⟩ = some (.int .i64 v)) (go_keep)
    (first
      | (go_at_call 13; with_reducible refine KAT.out.mono ?_; rintro e w' ⟨rfl, rfl⟩)
      | (go_at_call 6; with_reducible refine (KA.out _).mono ?_; rintro e u1 ⟨rfl, gx⟩; have I12 := HI.out.gb (show w11.grownBy u1 none from gb_trans (gb_drew _ _) gx); have td0 := blk_cell I12.d 0; have td1 := blk_cell I12.d 1; have td2 := blk_cell I12.d 2; have td3 := blk_cell I12.d 3; have td4 := blk_cell I12.d 4; have td5 := blk_cell I12.d 5; have td6 := blk_cell I12.d 6; have td7 := blk_cell I12.d 7; have td8 := blk_cell I12.d 8;have tf0 := blk_cell I12.f 0; have tf1 := blk_cell I12.f 1; have tf2 := blk_cell I12.f 2;have tr0 := blk_cell I12.r 0; have tr1 := blk_cell I12.r 1; have tr2 := blk_cell I12.r 2;have te0 := blk_cell I12.e 0; have te1 := blk_cell I12.e 1; have te2 := blk_cell I12.e 2; have te3 := blk_cell I12.e 3; have te4 := blk_cell I12.e 4; have te5 := blk_cell I12.e 5; simp only [List.getElem?_toArray, List.getElem?_cons_succ, List.getElem?_cons_zero] at td0 td1 td2 td3 td4 td5 td6 td7 td8 tf0 tf1 tf2 tr0 tr1 tr2 te0 te1 te2 te3 te4 te5; have G12 := Lib.hid I12.g; clear gx I12))
  all_goals
    trace_state
    go_wp2
    go_ret
    exact ⟨rfl, G12.out⟩

theorem reads_any (A B : ByteArray) (W : World) :
    Calls Try.prog 3 #[.string A, .string B] W fun e w' => e = .returned (.bool true) ∧ W.grownBy w' none := by
  by_cases hf : 600 < B.size ∨ 50 < A.size
  · exact reads_far A B W hf
  have hTs : (A ++ B).size = A.size + B.size := ByteArray.size_append
  have hx : (A ++ B).extract A.size (A ++ B).size = B := by
    apply ByteArray.ext
    apply Array.toList_inj.1
    rw [Lib.extract_data, ByteArray.data_append, Array.toList_append, Lib.size_eq (A ++ B)]
    rw [List.drop_append, Lib.size_eq A]
    simp
    rw [List.drop_eq_nil_of_le (Nat.le_of_eq (Lib.size_eq A).symm), List.nil_append, List.take_of_length_le (Nat.le_of_eq (Lib.size_eq B).symm)]
  rcases dir_both (A ++ B) A.size B hx (by omega) (by omega) (LW 1000 0) with ⟨n, q, k, a, h1, h2, h3, h4, KC, KD⟩ | ⟨cu, c, r, w, h, a, b, sz, pl, h1, h2, h3, h4, h5, h6, _, _, _, _, _, _, KC, KD⟩
  · exact reads_bad A B W (by omega) (by omega) n q k a (by omega) (by omega) (by omega) KC KD
  · exact reads_good A B W (by omega) (by omega) cu c r w h a b sz pl (by omega) (by omega) KC KD

end Go.Proofs.Ytajbpcaghmcplaa.Id
