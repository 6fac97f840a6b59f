/- Texts of one kind, one behind the other: DhL0, DhLt, DhL1, DhL2. -/
import Derived.Laws.Concat
import Derived.Test.YtikjfmpdfeaooaaDoorG22
/- Layer 20: the law DibheadReads, far and bad (written by wip/gen/dhl.py). -/
namespace Go.Proofs.YtikjfmpdfeaooaaDoor.Dh
open Go.ChangeShapes Go.WideShapes Go.ChangeAt Go.RowKit
open Go.Proofs.YtikjfmpdfeaooaaDoor.Le Go.Proofs.YtikjfmpdfeaooaaDoor.Sr Go.Proofs.YtikjfmpdfeaooaaDoor.Ma
set_option linter.unusedVariables false

open Go.Proofs.YtikjfmpdfeaooaaDoor.Nu in
theorem str_up (X D : Int) (N : Nat) (hN : X * D = N) (x1 : 0 ≤ X) (x2 : X ≤ 16384) (d1 : 1 ≤ D) (d2 : D ≤ 32) : strV X D 32 = ((upN N / 8 : Nat) : Int) := by
  have hb : X * D ≤ 16384 * 32 := Int.mul_le_mul x2 d2 (by omega) (by decide)
  have d0 : (D == 0) = false := by rw [beq_eq_false_iff_ne]; omega
  have m1 : mulOk X D = true := by unfold mulOk isB; simp; omega
  have v1 : mulV X D = N := by unfold mulV; rw [if_pos m1]; exact hN
  have c1 : ceilOk (N : Int) 32 = true := by unfold ceilOk isB; simp; omega
  have v2 : ceilV (N : Int) 32 = ((N + 31) / 32 : Nat) := by unfold ceilV; rw [if_pos c1]; split <;> omega
  have m2 : mulOk (((N + 31) / 32 : Nat) : Int) 32 = true := by unfold mulOk isB; simp; omega
  have v3 : mulV (((N + 31) / 32 : Nat) : Int) 32 = (upN N : Nat) := by unfold mulV; rw [if_pos m2]; unfold upN; omega
  have s1 : strOk X D 32 = true := by
    unfold strOk
    rw [v1, v2, m1, c1, m2, d0]
    decide
  rw [strV_yes s1, v1, v2, v3]
  omega

/-- What is held of a world, said so that the walk takes it for a fact. -/
def At1 (P : World → Prop) (u : World) : Prop := P u

/-- What stands behind the reading. -/
theorem law_far (A B : ByteArray) (fm : Int) (W : World) (h : 300 < B.size ∨ 100 < A.size) :
    Calls Tryd.prog 3 #[.string A, .string B, .int .i64 fm] W fun e w' => e = .returned (.bool true) ∧ W.grownBy w' none := by
  have KA := Lib.hid (fun u => awake_calls u)
  by_cases h1 : 300 < B.size
  · have d0 : decide ((300 : Int) < B.size) = true := decide_eq_true (by omega)
    clear h h1
    go_enter Tryd.func3, Tryd.ntmps3
    go_wp2_with fail
    refine (KA.out _).mono ?_
    rintro e w1 ⟨rfl, g1⟩
    have G1 := Lib.hid g1
    clear g1
    go_wp2
    go_ret
    exact ⟨rfl, G1.out⟩
  · have d0 : decide ((300 : Int) < B.size) = false := decide_eq_false (by omega)
    have d1 : decide ((100 : Int) < A.size) = true := decide_eq_true (by omega)
    clear h h1
    go_enter Tryd.func3, Tryd.ntmps3
    go_wp2_with fail
    refine (KA.out _).mono ?_
    rintro e w1 ⟨rfl, g1⟩
    have G1 := Lib.hid g1
    clear g1
    go_wp2
    go_ret
    exact ⟨rfl, G1.out⟩

set_option maxRecDepth 100000 in
set_option maxHeartbeats 16000000 in
theorem law_bad (A B : ByteArray) (fm : Int) (W : World) (kk a0 : Int) (q : Nat) (y : St) (k1 : 1 ≤ kk)
    (hA : A.size ≤ 100) (hB : B.size ≤ 300) (hlt : 0 < W.heap.size) (hT : Tab W) (KA0 : ∀ u, Calls Tryd.prog 7 #[] u fun e w' => e = .returned (.bool true) ∧ u.grownBy w' none) (RB : CRd (A ++ B) A.size fm (LW 1000 0) q y (.agg Z16) (flV kk fm a0) ∧ DRd (A ++ B) A.size (badA kk a0)) :
    Calls Tryd.prog 3 #[.string A, .string B, .int .i64 fm] W fun e w' => e = .returned (.bool true) ∧ W.grownBy w' none := by
  have hTs : (A ++ B).size = A.size + B.size := ByteArray.size_append
  have d0 : decide ((300 : Int) < B.size) = false := decide_eq_false (by omega)
  have d1 : decide ((100 : Int) < A.size) = false := decide_eq_false (by omega)
  have ad : ∀ w, (Op.stringOp .add A B).run Tryd.prog w = .ok (.string (A ++ B)) w := fun w => run_string_add_sum w A B (by omega)
  have wadd : IntKind.i64.wrap ((A.size : Int) + (B.size : Int)) = ((A ++ B).size : Int) := by rw [IntWalk.i64_in _ (by omega)]; omega
  have KFR := Lib.hid (fun u => fresh_calls (A ++ B) u (by omega))
  have hpT : A.size ≤ (A ++ B).size := by omega
  have hTb : (A ++ B).size ≤ 400 := by omega
  obtain ⟨T, hT0⟩ : ∃ T, A ++ B = T := ⟨_, rfl⟩
  simp only [hT0] at ad wadd KFR hpT hTb RB
  clear hTs hT0
  obtain ⟨p, hp0⟩ : ∃ p, A.size = p := ⟨_, rfl⟩
  simp only [hp0] at d1 wadd hpT RB
  have HP := Lib.hid hp0
  clear hA hB
  have KRD := Lib.hid RB.1
  have KD := Lib.hid RB.2
  have KA := Lib.hid KA0
  clear RB KA0
  unfold CRd flV at KRD
  unfold DRd badA at KD
  have hkk : (kk != 0) = true := by rw [bne_iff_ne]; omega
  clear k1
  go_enter Tryd.func3, Tryd.ntmps3
  go_wp2_with fail
  refine (KFR.out _).mono ?_
  rintro e w1 ⟨c, l, rfl, S1, g1, hl, hc⟩
  have hbl := S1.so.bl
  have KSK := Lib.hid (show ∀ u, SL c l T 0 0 T.size (LW 1000 0) u → Calls Tryd.prog 9 #[.pointer (some ⟨c, 0, none⟩), .int .i64 (p : Nat)] u fun e w' => e = .returned (.bool true) ∧ SL c l T p 0 T.size (LW 1000 0) w' ∧ u.grownBy w' (some c) from fun u hu => (seek_yes c l T 0 0 T.size p u hu.so (by omega) hpT).mono (fun e w' ⟨he, h1, g⟩ => ⟨he, ⟨h1, hu.led.grown g (by intro h; injection h with h; omega)⟩, g⟩))
  have HS1 := Lib.hid S1
  have G1 := Lib.hid g1
  clear S1 g1 hpT hTb
  have hcl := Lib.hid (And.intro hc (And.intro hl hbl))
  clear hc hl hbl
  go_wp2_with fail
  refine (KSK.out _ HS1.out).mono ?_
  rintro e w2 ⟨rfl, S2, g2⟩
  have G2 := Lib.hid (gb_own G1.out hcl.out.1 g2)
  have HS2 := Lib.hid S2
  clear S2 g2 HS1 G1 KFR
  go_wp2_with fail
  refine (KRD.out c l 0 _ HS2.out (hT.grown hlt G2.out) (by have := hcl.out; omega) (by have := hcl.out; omega)).mono ?_
  rintro e w3 ⟨rfl, S3, t3⟩
  have G3 : W.grownBy w3 none := Tn.own G2.out t3 (by intro x hx; have := hcl.out; simp at hx; omega)
  have A4 : ((w3.alloc (.cells #[.int .i64 0, .int .i64 0, .int .i64 0, .bool false, .int .i64 0, .int .i64 0, .int .i64 0, .int .i64 0, .int .i64 0, .int .i64 0, .int .i64 0, .int .i64 0, .int .i64 0, .int .i64 0, .int .i64 0, .int .i64 0] 31)).alloc (.cells #[.int .i64 kk, .int .i64 fm, .int .i64 a0] 33)).heap[w3.heap.size]? = some (.cells #[.int .i64 0, .int .i64 0, .int .i64 0, .bool false, .int .i64 0, .int .i64 0, .int .i64 0, .int .i64 0, .int .i64 0, .int .i64 0, .int .i64 0, .int .i64 0, .int .i64 0, .int .i64 0, .int .i64 0, .int .i64 0] 31 (0, 0)) := blk_al blk_at _
  have F4 : ((w3.alloc (.cells #[.int .i64 0, .int .i64 0, .int .i64 0, .bool false, .int .i64 0, .int .i64 0, .int .i64 0, .int .i64 0, .int .i64 0, .int .i64 0, .int .i64 0, .int .i64 0, .int .i64 0, .int .i64 0, .int .i64 0, .int .i64 0] 31)).alloc (.cells #[.int .i64 kk, .int .i64 fm, .int .i64 a0] 33)).heap[w3.heap.size + 1]? = some (.cells #[.int .i64 kk, .int .i64 fm, .int .i64 a0] 33 (0, 0)) := by
    rw [← size_alloc w3 (.cells #[.int .i64 0, .int .i64 0, .int .i64 0, .bool false, .int .i64 0, .int .i64 0, .int .i64 0, .int .i64 0, .int .i64 0, .int .i64 0, .int .i64 0, .int .i64 0, .int .i64 0, .int .i64 0, .int .i64 0, .int .i64 0] 31)]; exact blk_at
  have G4 := gb_trans G3 (gb_trans (World.grownBy_alloc w3 (.cells #[.int .i64 0, .int .i64 0, .int .i64 0, .bool false, .int .i64 0, .int .i64 0, .int .i64 0, .int .i64 0, .int .i64 0, .int .i64 0, .int .i64 0, .int .i64 0, .int .i64 0, .int .i64 0, .int .i64 0, .int .i64 0] 31) none) (World.grownBy_alloc (w3.alloc (.cells #[.int .i64 0, .int .i64 0, .int .i64 0, .bool false, .int .i64 0, .int .i64 0, .int .i64 0, .int .i64 0, .int .i64 0, .int .i64 0, .int .i64 0, .int .i64 0, .int .i64 0, .int .i64 0, .int .i64 0, .int .i64 0] 31)) (.cells #[.int .i64 kk, .int .i64 fm, .int .i64 a0] 33) none))
  have S4 := S3.grown (gb_trans (World.grownBy_alloc w3 (.cells #[.int .i64 0, .int .i64 0, .int .i64 0, .bool false, .int .i64 0, .int .i64 0, .int .i64 0, .int .i64 0, .int .i64 0, .int .i64 0, .int .i64 0, .int .i64 0, .int .i64 0, .int .i64 0, .int .i64 0, .int .i64 0] 31) none) (World.grownBy_alloc (w3.alloc (.cells #[.int .i64 0, .int .i64 0, .int .i64 0, .bool false, .int .i64 0, .int .i64 0, .int .i64 0, .int .i64 0, .int .i64 0, .int .i64 0, .int .i64 0, .int .i64 0, .int .i64 0, .int .i64 0, .int .i64 0, .int .i64 0] 31)) (.cells #[.int .i64 kk, .int .i64 fm, .int .i64 a0] 33) none))
  clear S3 G3 t3 HS2 G2 KSK
  go_upto_region 7 with fail
  obtain ⟨hb, hhb⟩ : ∃ k, w3.heap.size = k := ⟨_, rfl⟩
  rw [hhb] at A4 F4 ⊢
  generalize (w3.alloc (.cells #[.int .i64 0, .int .i64 0, .int .i64 0, .bool false, .int .i64 0, .int .i64 0, .int .i64 0, .int .i64 0, .int .i64 0, .int .i64 0, .int .i64 0, .int .i64 0, .int .i64 0, .int .i64 0, .int .i64 0, .int .i64 0] 31)).alloc (.cells #[.int .i64 kk, .int .i64 fm, .int .i64 a0] 33) = w4 at A4 F4 G4 S4 ⊢
  clear hhb
  have HA4 := Lib.hid A4
  have HF4 := Lib.hid F4
  have HG4 := Lib.hid G4
  have HS4 := Lib.hid S4
  clear A4 F4 G4 S4
  go_wp2_with fail
  refine (KD.out _).mono ?_
  rintro e w5 ⟨rfl, g5⟩
  have ga := gb_trans g5 (World.grownBy_alloc w5 (.cells #[.int .i64 0, .int .i64 0, .int .i64 0, .bool false, .int .i64 0, .int .i64 0, .int .i64 0, .int .i64 0, .int .i64 0, .int .i64 0, .int .i64 0, .int .i64 0, .int .i64 0, .int .i64 kk, .int .i64 a0] 37) none)
  have A6 := old0 ga HA4.out (blk_lt HA4.out) (by simp)
  have F6 := old0 ga HF4.out (blk_lt HF4.out) (by simp)
  have G6 := gb_trans HG4.out ga
  have S6 := HS4.out.grown ga
  have D6 : (w5.alloc (.cells #[.int .i64 0, .int .i64 0, .int .i64 0, .bool false, .int .i64 0, .int .i64 0, .int .i64 0, .int .i64 0, .int .i64 0, .int .i64 0, .int .i64 0, .int .i64 0, .int .i64 0, .int .i64 kk, .int .i64 a0] 37)).heap[w5.heap.size]? = some (.cells #[.int .i64 0, .int .i64 0, .int .i64 0, .bool false, .int .i64 0, .int .i64 0, .int .i64 0, .int .i64 0, .int .i64 0, .int .i64 0, .int .i64 0, .int .i64 0, .int .i64 0, .int .i64 kk, .int .i64 a0] 37 (0, 0)) := blk_at
  clear g5 ga HA4 HF4 HG4 HS4
  go_upto_region 8 with fail
  obtain ⟨db, hdb⟩ : ∃ k, w5.heap.size = k := ⟨_, rfl⟩
  rw [hdb] at D6 ⊢
  generalize w5.alloc (.cells #[.int .i64 0, .int .i64 0, .int .i64 0, .bool false, .int .i64 0, .int .i64 0, .int .i64 0, .int .i64 0, .int .i64 0, .int .i64 0, .int .i64 0, .int .i64 0, .int .i64 0, .int .i64 kk, .int .i64 a0] 37) = w6 at A6 F6 D6 G6 S6 ⊢
  clear hdb
  have a0 := blk_cell A6 0
  have a1 := blk_cell A6 1
  have a2 := blk_cell A6 2
  have a3 := blk_cell A6 3
  have a4 := blk_cell A6 4
  have a5 := blk_cell A6 5
  have a6 := blk_cell A6 6
  have a7 := blk_cell A6 7
  have a8 := blk_cell A6 8
  have a9 := blk_cell A6 9
  have a10 := blk_cell A6 10
  have a11 := blk_cell A6 11
  have a12 := blk_cell A6 12
  have a13 := blk_cell A6 13
  have a14 := blk_cell A6 14
  have a15 := blk_cell A6 15
  simp only [List.getElem?_toArray, List.getElem?_cons_succ, List.getElem?_cons_zero] at a0 a1 a2 a3 a4 a5 a6 a7 a8 a9 a10 a11 a12 a13 a14 a15
  have f0 := blk_cell F6 0
  have f1 := blk_cell F6 1
  have f2 := blk_cell F6 2
  simp only [List.getElem?_toArray, List.getElem?_cons_succ, List.getElem?_cons_zero] at f0 f1 f2
  have d0 := blk_cell D6 0
  have d1 := blk_cell D6 1
  have d2 := blk_cell D6 2
  have d3 := blk_cell D6 3
  have d4 := blk_cell D6 4
  have d5 := blk_cell D6 5
  have d6 := blk_cell D6 6
  have d7 := blk_cell D6 7
  have d8 := blk_cell D6 8
  have d9 := blk_cell D6 9
  have d10 := blk_cell D6 10
  have d11 := blk_cell D6 11
  have d12 := blk_cell D6 12
  have d13 := blk_cell D6 13
  have d14 := blk_cell D6 14
  simp only [List.getElem?_toArray, List.getElem?_cons_succ, List.getElem?_cons_zero] at d0 d1 d2 d3 d4 d5 d6 d7 d8 d9 d10 d11 d12 d13 d14
  have HG6 := Lib.hid G6
  clear A6 F6 D6 G6 S6
  go_wp2_with fail
  refine (KA.out _).mono ?_
  rintro e w7 ⟨rfl, g7⟩
  have HG7 := Lib.hid (gb_trans HG6.out g7)
  clear g7 HG6
  go_wp2
  go_ret
  exact ⟨rfl, HG7.out⟩

end Go.Proofs.YtikjfmpdfeaooaaDoor.Dh

/- Layer 20: the law DibheadReads, its last test (written by wip/gen/dhl.py). -/
namespace Go.Proofs.YtikjfmpdfeaooaaDoor.Dh
open Go.ChangeShapes Go.WideShapes Go.ChangeAt Go.RowKit
open Go.Proofs.YtikjfmpdfeaooaaDoor.Le Go.Proofs.YtikjfmpdfeaooaaDoor.Sr Go.Proofs.YtikjfmpdfeaooaaDoor.Ma
set_option linter.unusedVariables false

noncomputable def bdL : Code := (Tryd.f3).body.getD .skip

set_option maxRecDepth 100000 in
set_option maxHeartbeats 16000000 in
theorem tail13 (W : World) (S X Y D M C : Int) (tp : Bool) (s0 n0 s1 n1 s2 n2 s3 n3 m0 m1 m2 m3 : Int) (p q : Nat) (y : St) (R E : Int) (T : ByteArray) (c l hb db : Nat) (w6 : World) (A6 : w6.heap[hb]? = some (.cells #[.int .i64 S, .int .i64 X, .int .i64 Y, .bool tp, .int .i64 D, .int .i64 M, .int .i64 C, .int .i64 s0, .int .i64 n0, .int .i64 s1, .int .i64 n1, .int .i64 s2, .int .i64 n2, .int .i64 s3, .int .i64 n3, .int .i64 (p : Nat)] 31 (0, 0))) (F6 : w6.heap[hb + 1]? = some (.cells #[.int .i64 0, .int .i64 0, .int .i64 0] 33 (0, 0))) (D6 : w6.heap[db]? = some (.cells #[.int .i64 S, .int .i64 X, .int .i64 Y, .bool tp, .int .i64 D, .int .i64 M, .int .i64 C, .int .i64 m0, .int .i64 m1, .int .i64 m2, .int .i64 m3, .int .i64 (p : Nat), .int .i64 (q : Nat), .int .i64 0, .int .i64 0] 37 (0, 0))) (G6 : W.grownBy w6 none) (S6 : SL c l T q 0 T.size y w6) (KSM0 : ∀ u, Calls Tryd.prog 12 #[.agg #[.int .i64 S, .int .i64 X, .int .i64 Y, .bool tp, .int .i64 D, .int .i64 M, .int .i64 C, .int .i64 s0, .int .i64 n0, .int .i64 s1, .int .i64 n1, .int .i64 s2, .int .i64 n2, .int .i64 s3, .int .i64 n3, .int .i64 (p : Nat)], .agg #[.int .i64 S, .int .i64 X, .int .i64 Y, .bool tp, .int .i64 D, .int .i64 M, .int .i64 C, .int .i64 m0, .int .i64 m1, .int .i64 m2, .int .i64 m3, .int .i64 (p : Nat), .int .i64 (q : Nat), .int .i64 0, .int .i64 0]] u fun e w' => e = .returned (.bool true) ∧ u.grownBy w' none) (KST0 : ∀ u, Calls Tryd.prog 14 #[.agg #[.int .i64 S, .int .i64 X, .int .i64 Y, .bool tp, .int .i64 D, .int .i64 M, .int .i64 C, .int .i64 s0, .int .i64 n0, .int .i64 s1, .int .i64 n1, .int .i64 s2, .int .i64 n2, .int .i64 s3, .int .i64 n3, .int .i64 (p : Nat)]] u fun e w' => e = .returned (.int .i64 R) ∧ u.grownBy w' none) (KRS0 : ∀ u, Calls Tryd.prog 15 #[.agg #[.int .i64 S, .int .i64 X, .int .i64 Y, .bool tp, .int .i64 D, .int .i64 M, .int .i64 C, .int .i64 m0, .int .i64 m1, .int .i64 m2, .int .i64 m3, .int .i64 (p : Nat), .int .i64 (q : Nat), .int .i64 0, .int .i64 0]] u fun e w' => e = .returned (.int .i64 R) ∧ u.grownBy w' none) (KE0 : ∀ u, Calls Tryd.prog 16 #[.agg #[.int .i64 S, .int .i64 X, .int .i64 Y, .bool tp, .int .i64 D, .int .i64 M, .int .i64 C, .int .i64 s0, .int .i64 n0, .int .i64 s1, .int .i64 n1, .int .i64 s2, .int .i64 n2, .int .i64 s3, .int .i64 n3, .int .i64 (p : Nat)]] u fun e w' => e = .returned (.int .i64 E) ∧ u.grownBy w' none) (KK0 : ∀ u, Calls Tryd.prog 17 #[.int .i64 S] u fun e w' => e = .returned (.bool true) ∧ u = w') (KA0 : ∀ u, Calls Tryd.prog 7 #[] u fun e w' => e = .returned (.bool true) ∧ u.grownBy w' none) 
    (u0 u1 u2 u3 u4 u5 u12 u13 u14 u15 u16 u17 u18 u19 u20 u21 u22 u23 u24 u25 u26 u27 u28 u29 u30 u31 u32 u33 u34 u35 u36 u37 u38 u39 u40 u41 u42 u43 u44 u45 u46 u47 u48 u49 u50 u51 u52 u53 u54 u55 u56 u57 u58 u59 u60 u61 u62 u63 u64 u65 u66 u67 u68 u69 u70 u71 u72 u73 u74 u75 u76 u77 u78 u79 u80 u81 u82 u83 u84 u85 u86 u87 u88 u89 u90 u91 u92 u93 u94 u95 u96 u97 u98 u99 u100 u101 u102 u103 u104 u105 u106 u107 u108 : Value) (K1 : Act → World → Prop) (k1 : ∀ a w, Code.wp Tryd.prog (tl7 (tl7 (tl7 (tl7 (tl7 (tl7 (tl7 (tl7 (tl7 (tl7 bdL)))))))))) (bodyPost Tryd.prog Tryd.f3 (fun e w' => e = .returned (.bool true) ∧ W.grownBy w' none)) a w → K1 a w) :
    Code.wp Tryd.prog (hd7 (tl7 (tl7 (tl7 (tl7 (tl7 (tl7 (tl7 (tl7 (tl7 bdL)))))))))) (Exit.then K1 (bodyPost Tryd.prog Tryd.f3 (fun e w' => e = .returned (.bool true) ∧ W.grownBy w' none))) { tmps := #[u0, u1, u2, u3, u4, u5, .bool false, .pointer (some ⟨c, 0, none⟩), .pointer (some ⟨hb, 0, none⟩), .pointer (some ⟨hb + 1, 0, none⟩), .pointer (some ⟨db, 0, none⟩), .int .i64 E, u12, u13, u14, u15, u16, u17, u18, u19, u20, u21, u22, u23, u24, u25, u26, u27, u28, u29, u30, u31, u32, u33, u34, u35, u36, u37, u38, u39, u40, u41, u42, u43, u44, u45, u46, u47, u48, u49, u50, u51, u52, u53, u54, u55, u56, u57, u58, u59, u60, u61, u62, u63, u64, u65, u66, u67, u68, u69, u70, u71, u72, u73, u74, u75, u76, u77, u78, u79, u80, u81, u82, u83, u84, u85, u86, u87, u88, u89, u90, u91, u92, u93, u94, u95, u96, u97, u98, u99, u100, u101, u102, u103, u104, u105, u106, u107, u108], defers := [] } w6 := by
  have KA := Lib.hid KA0
  have KSM := Lib.hid KSM0
  have KST := Lib.hid KST0
  have KRS := Lib.hid KRS0
  have KE := Lib.hid KE0
  have KK := Lib.hid KK0
  clear KA0 KSM0 KST0 KRS0 KE0 KK0
  conv => arg 2; whnf
  conv at k1 => enter [a, w, 1, 2]; whnf
  obtain ⟨P, hP⟩ : ∃ P : World → Prop, P = (fun u => u.heap[hb]? = some (.cells #[.int .i64 S, .int .i64 X, .int .i64 Y, .bool tp, .int .i64 D, .int .i64 M, .int .i64 C, .int .i64 s0, .int .i64 n0, .int .i64 s1, .int .i64 n1, .int .i64 s2, .int .i64 n2, .int .i64 s3, .int .i64 n3, .int .i64 (p : Nat)] 31 (0, 0)) ∧ u.heap[hb + 1]? = some (.cells #[.int .i64 0, .int .i64 0, .int .i64 0] 33 (0, 0)) ∧ u.heap[db]? = some (.cells #[.int .i64 S, .int .i64 X, .int .i64 Y, .bool tp, .int .i64 D, .int .i64 M, .int .i64 C, .int .i64 m0, .int .i64 m1, .int .i64 m2, .int .i64 m3, .int .i64 (p : Nat), .int .i64 (q : Nat), .int .i64 0, .int .i64 0] 37 (0, 0))) := ⟨_, rfl⟩
  have PG : ∀ u u' : World, At1 P u → u.grownBy u' none → At1 P u' := by
    unfold At1
    rw [hP]
    rintro u u' ⟨h1, h2, h3⟩ g
    exact ⟨old0 g h1 (blk_lt h1) (by simp), old0 g h2 (blk_lt h2) (by simp), old0 g h3 (blk_lt h3) (by simp)⟩
  have p6 : At1 P w6 := by unfold At1; rw [hP]; exact ⟨A6, F6, D6⟩
  have LH : ∀ u : World, At1 P u → u.rangeAt hb 0 [.int .i64 S, .int .i64 X, .int .i64 Y, .bool tp, .int .i64 D, .int .i64 M, .int .i64 C, .int .i64 s0, .int .i64 n0, .int .i64 s1, .int .i64 n1, .int .i64 s2, .int .i64 n2, .int .i64 s3, .int .i64 n3, .int .i64 (p : Nat)] := fun u h => by
    unfold At1 at h
    rw [hP] at h
    have hr := World.rangeAt_of_block h.1 0 16
    intro j v hv
    exact hr j v (by rw [← hv]; rfl)
  have LD : ∀ u : World, At1 P u → u.rangeAt db 0 [.int .i64 S, .int .i64 X, .int .i64 Y, .bool tp, .int .i64 D, .int .i64 M, .int .i64 C, .int .i64 m0, .int .i64 m1, .int .i64 m2, .int .i64 m3, .int .i64 (p : Nat), .int .i64 (q : Nat), .int .i64 0, .int .i64 0] := fun u h => by
    unfold At1 at h
    rw [hP] at h
    have hr := World.rangeAt_of_block h.2.2 0 15
    intro j v hv
    exact hr j v (by rw [← hv]; rfl)
  have cf0 : ∀ u : World, At1 P u → u.cell? ⟨hb + 1, 0, none⟩ = some (.int .i64 0) := fun u h => by unfold At1 at h; rw [hP] at h; exact blk_cell h.2.1 0
  have cf1 : ∀ u : World, At1 P u → u.cell? ⟨hb + 1, 1, none⟩ = some (.int .i64 0) := fun u h => by unfold At1 at h; rw [hP] at h; exact blk_cell h.2.1 1
  have cf2 : ∀ u : World, At1 P u → u.cell? ⟨hb + 1, 2, none⟩ = some (.int .i64 0) := fun u h => by unfold At1 at h; rw [hP] at h; exact blk_cell h.2.1 2
  have cd0 : ∀ u : World, At1 P u → u.cell? ⟨db, 0, none⟩ = some (.int .i64 S) := fun u h => by unfold At1 at h; rw [hP] at h; exact blk_cell h.2.2 0
  have cd12 : ∀ u : World, At1 P u → u.cell? ⟨db, 12, none⟩ = some (.int .i64 (q : Nat)) := fun u h => by unfold At1 at h; rw [hP] at h; exact blk_cell h.2.2 12
  have KSM := KSM.out
  have KST := KST.out
  have KRS := KRS.out
  have KE := KE.out
  obtain ⟨HL, hHL⟩ : ∃ L : List Value, [.int .i64 S, .int .i64 X, .int .i64 Y, .bool tp, .int .i64 D, .int .i64 M, .int .i64 C, .int .i64 s0, .int .i64 n0, .int .i64 s1, .int .i64 n1, .int .i64 s2, .int .i64 n2, .int .i64 s3, .int .i64 n3, .int .i64 (p : Nat)] = L := ⟨_, rfl⟩
  obtain ⟨DL, hDL⟩ : ∃ L : List Value, [.int .i64 S, .int .i64 X, .int .i64 Y, .bool tp, .int .i64 D, .int .i64 M, .int .i64 C, .int .i64 m0, .int .i64 m1, .int .i64 m2, .int .i64 m3, .int .i64 (p : Nat), .int .i64 (q : Nat), .int .i64 0, .int .i64 0] = L := ⟨_, rfl⟩
  have hH16 : HL.length = 16 := by rw [← hHL]; rfl
  have hD15 : DL.length = 15 := by rw [← hDL]; rfl
  simp only [hHL] at LH KSM KST KE
  simp only [hDL] at LD KSM KRS
  have KSM := Lib.hid KSM
  have KST := Lib.hid KST
  have KRS := Lib.hid KRS
  have KE := Lib.hid KE
  have uH := Tryd.underlying31
  have uD := Tryd.underlying37
  have iH : (Tryd.prog.info? 31).map (·.size) = some HL.length := by rw [hH16]; kernel_rfl
  have iD : (Tryd.prog.info? 37).map (·.size) = some DL.length := by rw [hD15]; kernel_rfl
  have UH := Lib.hid (And.intro uH iH)
  have UD := Lib.hid (And.intro uD iD)
  have HLH := Lib.hid LH
  have HLD := Lib.hid LD
  clear hHL hDL hH16 hD15 uH uD iH iD LH LD
  have KAT := Lib.hid (fun u (hu : SL c l T q 0 T.size y u) => at_calls c l T q 0 T.size u hu.so)
  have HG6 := Lib.hid G6
  have HS6 := Lib.hid S6
  have HPG := Lib.hid PG
  have p0 : At1 P w6.drew := PG _ _ p6 (gb_drew _ _)
  clear A6 F6 D6 G6 S6 hP PG
  refine wp_region_held_drew (S := fun u => At1 P u) (by kernel_rfl) ?_ (fun hHeld => ?_)
  · first | exact trivial | go_keep
  refine wpAnyH_take (i := 0) (oi := { dst := some 73, op := Go.Op.load 33 (Go.Operand.tmp 9), type := 33, pos := "law.go:55", after := #[], guard := none }) (v := ?v0_1) rfl (by kernel_rfl) (by kernel_rfl) (by kernel_rfl) (fun _ _ _ h => h) (Or.inl ⟨by rfl, ?hy0_1⟩) (by assumption) ?rest0_1
  case hy0_1 =>
    intro w' hSw
    try dsimp only at hSw
    go_simp
    try with_reducible rfl
  try simp only [Act.put, List.setIfInBounds_toArray, List.set_cons_zero, List.set_cons_succ]
  refine wpAnyH_take (i := 1) (oi := { dst := some 74, op := Go.Op.build 33 #[], type := 33, pos := "law.go:55", after := #[], guard := none }) (v := ?v1_2) rfl (by kernel_rfl) (by kernel_rfl) (by kernel_rfl) (fun _ _ _ h => h) (Or.inl ⟨by rfl, ?hy1_2⟩) (by assumption) ?rest1_2
  case hy1_2 =>
    intro w' hSw
    try dsimp only at hSw
    go_simp
    try with_reducible rfl
  try simp only [Act.put, List.setIfInBounds_toArray, List.set_cons_zero, List.set_cons_succ]
  refine wpAnyH_take (i := 2) (oi := { dst := some 75, op := Go.Op.binOp Go.BinOp.eql 33 (Go.Operand.tmp 73) (Go.Operand.tmp 74) 33, type := 4, pos := "law.go:55", after := #[{ on := 0, ground := Go.Ground.data }, { on := 1, ground := Go.Ground.data }], guard := none }) (v := ?v2_3) rfl (by kernel_rfl) (by kernel_rfl) (by kernel_rfl) (fun _ _ _ h => h) (Or.inl ⟨by rfl, ?hy2_3⟩) (by assumption) ?rest2_3
  case hy2_3 =>
    intro w' hSw
    try dsimp only at hSw
    go_simp
    try with_reducible rfl
  try simp only [Act.put, List.setIfInBounds_toArray, List.set_cons_zero, List.set_cons_succ]
  refine wpAnyH_take (i := 3) (oi := { dst := some 76, op := Go.Op.move (Go.Operand.tmp 75), type := 4, pos := "law.go:55", after := #[{ on := 2, ground := Go.Ground.data }], guard := none }) (v := ?v3_4) rfl (by kernel_rfl) (by kernel_rfl) (by kernel_rfl) (fun _ _ _ h => h) (Or.inl ⟨by rfl, ?hy3_4⟩) (by assumption) ?rest3_4
  case hy3_4 =>
    intro w' hSw
    try dsimp only at hSw
    go_simp
    try with_reducible rfl
  try simp only [Act.put, List.setIfInBounds_toArray, List.set_cons_zero, List.set_cons_succ]
  refine' wpAnyH_take (i := 4) (oi := { dst := some 77, op := Go.Op.load 31 (Go.Operand.tmp 8), type := 31, pos := "law.go:55", after := #[{ on := 3, ground := Go.Ground.guard }], guard := some (3, true) }) (v := _) rfl (by kernel_rfl) (by kernel_rfl) (by kernel_rfl) (fun _ _ _ h => h) (yieldsIf_load_mid (by rfl) _ _ rfl _ _ rfl _ _ HLH.out UH.out.1 rfl UH.out.2) (by assumption) ?rest4_5
  try simp only [Act.put, List.setIfInBounds_toArray, List.set_cons_zero, List.set_cons_succ]
  refine' wpAnyH_take (i := 5) (oi := { dst := some 78, op := Go.Op.load 37 (Go.Operand.tmp 10), type := 37, pos := "law.go:55", after := #[{ on := 3, ground := Go.Ground.guard }], guard := some (3, true) }) (v := _) rfl (by kernel_rfl) (by kernel_rfl) (by kernel_rfl) (fun _ _ _ h => h) (yieldsIf_load_mid (by rfl) _ _ rfl _ _ rfl _ _ HLD.out UD.out.1 rfl UD.out.2) (by assumption) ?rest5_6
  try simp only [Act.put, List.setIfInBounds_toArray, List.set_cons_zero, List.set_cons_succ]
  refine wpAnyH_ready (rs := [6]) (by kernel_rfl) (by simp) ?_
  refine AllReadyH.cons (o := { dst := some 79, op := Go.Op.call { callee := Go.Callee.value (Go.Operand.func 12), args := #[Go.Operand.tmp 77, Go.Operand.tmp 78], argTypes := #[31, 37] }, type := 4, pos := "law.go:55", after := #[{ on := 4, ground := Go.Ground.data }, { on := 5, ground := Go.Ground.data }, { on := 3, ground := Go.Ground.chain }, { on := 3, ground := Go.Ground.guard }], guard := some (3, true) }) rfl (fun K hK => ?_) AllReadyH.nil
  go_simp
  refine (KSM.out _).mono ?_
  rintro e u1 ⟨rfl, gx⟩
  have G1 := Lib.hid (show w6.drew.grownBy u1 none from gx)
  clear gx
  have p_u1 := HPG.out _ _ p0 G1.out
  go_wp2_with fail
  refine hK.out _ _ ?_ (fun hHeld2 => ?_)
  · first | assumption | go_keep
  clear hHeld
  have hHeld := hHeld2
  clear hK K hHeld2
  try simp only [Act.put, List.setIfInBounds_toArray, List.set_cons_zero, List.set_cons_succ]
  refine wpAnyH_take (i := 7) (oi := { dst := some 80, op := Go.Op.pick (Go.Operand.tmp 76) (Go.Operand.tmp 79) (Go.Operand.const (Go.Value.bool false)), type := 4, pos := "law.go:55", after := #[{ on := 3, ground := Go.Ground.data }, { on := 6, ground := Go.Ground.data }], guard := none }) (v := ?v7_7) rfl (by kernel_rfl) (by kernel_rfl) (by kernel_rfl) (fun _ _ _ h => h) (Or.inl ⟨by rfl, ?hy7_7⟩) (by assumption) ?rest7_7
  case hy7_7 =>
    intro w' hSw
    try dsimp only at hSw
    go_simp
    try with_reducible rfl
  try simp only [Act.put, List.setIfInBounds_toArray, List.set_cons_zero, List.set_cons_succ]
  refine wpAnyH_take (i := 8) (oi := { dst := some 81, op := Go.Op.move (Go.Operand.tmp 80), type := 4, pos := "law.go:55", after := #[{ on := 7, ground := Go.Ground.data }, { on := 6, ground := Go.Ground.chain }], guard := none }) (v := ?v8_8) rfl (by kernel_rfl) (by kernel_rfl) (by kernel_rfl) (fun _ _ _ h => h) (Or.inl ⟨by rfl, ?hy8_8⟩) (by assumption) ?rest8_8
  case hy8_8 =>
    intro w' hSw
    try dsimp only at hSw
    go_simp
    try with_reducible rfl
  try simp only [Act.put, List.setIfInBounds_toArray, List.set_cons_zero, List.set_cons_succ]
  refine wpAnyH_take (i := 9) (oi := { dst := some 82, op := Go.Op.move (Go.Operand.tmp 7), type := 23, pos := "law.go:55", after := #[{ on := 8, ground := Go.Ground.guard }], guard := some (8, true) }) (v := ?v9_9) rfl (by kernel_rfl) (by kernel_rfl) (by kernel_rfl) (fun _ _ _ h => h) (Or.inl ⟨by rfl, ?hy9_9⟩) (by assumption) ?rest9_9
  case hy9_9 =>
    intro w' hSw
    try dsimp only at hSw
    go_simp
    try with_reducible rfl
  try simp only [Act.put, List.setIfInBounds_toArray, List.set_cons_zero, List.set_cons_succ]
  refine wpAnyH_take (i := 11) (oi := { dst := some 84, op := Go.Op.fieldAddr 37 (Go.Operand.tmp 10) 12, type := 0, pos := "law.go:55", after := #[{ on := 8, ground := Go.Ground.guard }], guard := some (8, true) }) (v := ?v11_10) rfl (by kernel_rfl) (by kernel_rfl) (by kernel_rfl) (fun _ _ _ h => h) (Or.inl ⟨by rfl, ?hy11_10⟩) (by assumption) ?rest11_10
  case hy11_10 =>
    intro w' hSw
    try dsimp only at hSw
    go_simp
    try with_reducible rfl
  try simp only [Act.put, List.setIfInBounds_toArray, List.set_cons_zero, List.set_cons_succ]
  refine wpAnyH_take (i := 12) (oi := { dst := some 85, op := Go.Op.load 3 (Go.Operand.tmp 84), type := 3, pos := "law.go:55", after := #[{ on := 11, ground := Go.Ground.data }, { on := 8, ground := Go.Ground.guard }], guard := some (8, true) }) (v := ?v12_11) rfl (by kernel_rfl) (by kernel_rfl) (by kernel_rfl) (fun _ _ _ h => h) (Or.inl ⟨by rfl, ?hy12_11⟩) (by assumption) ?rest12_11
  case hy12_11 =>
    intro w' hSw
    try dsimp only at hSw
    go_simp
    try with_reducible rfl
  try simp only [Act.put, List.setIfInBounds_toArray, List.set_cons_zero, List.set_cons_succ]
  refine wpAnyH_ready (rs := [10]) (by kernel_rfl) (by simp) ?_
  refine AllReadyH.cons (o := { dst := some 83, op := Go.Op.call { callee := Go.Callee.value (Go.Operand.func 13), args := #[Go.Operand.tmp 82], argTypes := #[23] }, type := 3, pos := "law.go:55", after := #[{ on := 9, ground := Go.Ground.data }, { on := 8, ground := Go.Ground.chain }, { on := 8, ground := Go.Ground.guard }], guard := some (8, true) }) rfl (fun K hK => ?_) AllReadyH.nil
  go_simp
  refine (KAT.out _ (HS6.out.grown (gb_trans (gb_drew w6 none) G1.out))).mono ?_
  rintro e w' ⟨rfl, rfl⟩
  go_wp2_with fail
  refine hK.out _ _ ?_ (fun hHeld2 => ?_)
  · first | assumption | go_keep
  clear hHeld
  have hHeld := hHeld2
  clear hK K hHeld2
  try simp only [Act.put, List.setIfInBounds_toArray, List.set_cons_zero, List.set_cons_succ]
  refine wpAnyH_take (i := 13) (oi := { dst := some 86, op := Go.Op.binOp Go.BinOp.eql 3 (Go.Operand.tmp 83) (Go.Operand.tmp 85) 3, type := 4, pos := "law.go:55", after := #[{ on := 10, ground := Go.Ground.data }, { on := 12, ground := Go.Ground.data }, { on := 8, ground := Go.Ground.guard }], guard := some (8, true) }) (v := ?v13_12) rfl (by kernel_rfl) (by kernel_rfl) (by kernel_rfl) (fun _ _ _ h => h) (Or.inl ⟨by rfl, ?hy13_12⟩) (by assumption) ?rest13_12
  case hy13_12 =>
    intro w' hSw
    try dsimp only at hSw
    go_simp
    try with_reducible rfl
  try simp only [Act.put, List.setIfInBounds_toArray, List.set_cons_zero, List.set_cons_succ]
  refine wpAnyH_take (i := 14) (oi := { dst := some 87, op := Go.Op.pick (Go.Operand.tmp 81) (Go.Operand.tmp 86) (Go.Operand.const (Go.Value.bool false)), type := 4, pos := "law.go:55", after := #[{ on := 8, ground := Go.Ground.data }, { on := 13, ground := Go.Ground.data }], guard := none }) (v := ?v14_13) rfl (by kernel_rfl) (by kernel_rfl) (by kernel_rfl) (fun _ _ _ h => h) (Or.inl ⟨by rfl, ?hy14_13⟩) (by assumption) ?rest14_13
  case hy14_13 =>
    intro w' hSw
    try dsimp only at hSw
    go_simp
    try with_reducible rfl
  try simp only [Act.put, List.setIfInBounds_toArray, List.set_cons_zero, List.set_cons_succ]
  refine wpAnyH_take (i := 15) (oi := { dst := some 88, op := Go.Op.move (Go.Operand.tmp 87), type := 4, pos := "law.go:55", after := #[{ on := 14, ground := Go.Ground.data }, { on := 10, ground := Go.Ground.chain }], guard := none }) (v := ?v15_14) rfl (by kernel_rfl) (by kernel_rfl) (by kernel_rfl) (fun _ _ _ h => h) (Or.inl ⟨by rfl, ?hy15_14⟩) (by assumption) ?rest15_14
  case hy15_14 =>
    intro w' hSw
    try dsimp only at hSw
    go_simp
    try with_reducible rfl
  try simp only [Act.put, List.setIfInBounds_toArray, List.set_cons_zero, List.set_cons_succ]
  refine' wpAnyH_take (i := 16) (oi := { dst := some 89, op := Go.Op.load 31 (Go.Operand.tmp 8), type := 31, pos := "law.go:55", after := #[{ on := 15, ground := Go.Ground.guard }], guard := some (15, true) }) (v := _) rfl (by kernel_rfl) (by kernel_rfl) (by kernel_rfl) (fun _ _ _ h => h) (yieldsIf_load_mid (by rfl) _ _ rfl _ _ rfl _ _ HLH.out UH.out.1 rfl UH.out.2) (by assumption) ?rest16_15
  try simp only [Act.put, List.setIfInBounds_toArray, List.set_cons_zero, List.set_cons_succ]
  refine' wpAnyH_take (i := 18) (oi := { dst := some 91, op := Go.Op.load 37 (Go.Operand.tmp 10), type := 37, pos := "law.go:55", after := #[{ on := 15, ground := Go.Ground.guard }], guard := some (15, true) }) (v := _) rfl (by kernel_rfl) (by kernel_rfl) (by kernel_rfl) (fun _ _ _ h => h) (yieldsIf_load_mid (by rfl) _ _ rfl _ _ rfl _ _ HLD.out UD.out.1 rfl UD.out.2) (by assumption) ?rest18_16
  try simp only [Act.put, List.setIfInBounds_toArray, List.set_cons_zero, List.set_cons_succ]
  refine wpAnyH_ready (rs := [17]) (by kernel_rfl) (by simp) ?_
  refine AllReadyH.cons (o := { dst := some 90, op := Go.Op.call { callee := Go.Callee.value (Go.Operand.func 14), args := #[Go.Operand.tmp 89], argTypes := #[31] }, type := 3, pos := "law.go:55", after := #[{ on := 16, ground := Go.Ground.data }, { on := 15, ground := Go.Ground.chain }, { on := 15, ground := Go.Ground.guard }], guard := some (15, true) }) rfl (fun K hK => ?_) AllReadyH.nil
  go_simp
  refine (KST.out _).mono ?_
  rintro e u2 ⟨rfl, gx⟩
  have G2 := Lib.hid (show w6.drew.grownBy u2 none from gb_trans G1.out gx)
  clear gx
  have p_u2 := HPG.out _ _ p0 G2.out
  go_wp2_with fail
  refine hK.out _ _ ?_ (fun hHeld2 => ?_)
  · first | assumption | go_keep
  clear hHeld
  have hHeld := hHeld2
  clear hK K hHeld2
  try simp only [Act.put, List.setIfInBounds_toArray, List.set_cons_zero, List.set_cons_succ]
  refine wpAnyH_ready (rs := [19]) (by kernel_rfl) (by simp) ?_
  refine AllReadyH.cons (o := { dst := some 92, op := Go.Op.call { callee := Go.Callee.value (Go.Operand.func 15), args := #[Go.Operand.tmp 91], argTypes := #[37] }, type := 3, pos := "law.go:55", after := #[{ on := 18, ground := Go.Ground.data }, { on := 17, ground := Go.Ground.chain }, { on := 15, ground := Go.Ground.guard }], guard := some (15, true) }) rfl (fun K hK => ?_) AllReadyH.nil
  go_simp
  refine (KRS.out _).mono ?_
  rintro e u3 ⟨rfl, gx⟩
  have G3 := Lib.hid (show w6.drew.grownBy u3 none from gb_trans G2.out gx)
  clear gx
  have p_u3 := HPG.out _ _ p0 G3.out
  go_wp2_with fail
  refine hK.out _ _ ?_ (fun hHeld2 => ?_)
  · first | assumption | go_keep
  clear hHeld
  have hHeld := hHeld2
  clear hK K hHeld2
  try simp only [Act.put, List.setIfInBounds_toArray, List.set_cons_zero, List.set_cons_succ]
  refine wpAnyH_take (i := 20) (oi := { dst := some 93, op := Go.Op.binOp Go.BinOp.eql 3 (Go.Operand.tmp 90) (Go.Operand.tmp 92) 3, type := 4, pos := "law.go:55", after := #[{ on := 17, ground := Go.Ground.data }, { on := 19, ground := Go.Ground.data }, { on := 15, ground := Go.Ground.guard }], guard := some (15, true) }) (v := ?v20_17) rfl (by kernel_rfl) (by kernel_rfl) (by kernel_rfl) (fun _ _ _ h => h) (Or.inl ⟨by rfl, ?hy20_17⟩) (by assumption) ?rest20_17
  case hy20_17 =>
    intro w' hSw
    try dsimp only at hSw
    go_simp
    try with_reducible rfl
  try simp only [Act.put, List.setIfInBounds_toArray, List.set_cons_zero, List.set_cons_succ]
  refine wpAnyH_take (i := 21) (oi := { dst := some 94, op := Go.Op.pick (Go.Operand.tmp 88) (Go.Operand.tmp 93) (Go.Operand.const (Go.Value.bool false)), type := 4, pos := "law.go:55", after := #[{ on := 15, ground := Go.Ground.data }, { on := 20, ground := Go.Ground.data }], guard := none }) (v := ?v21_18) rfl (by kernel_rfl) (by kernel_rfl) (by kernel_rfl) (fun _ _ _ h => h) (Or.inl ⟨by rfl, ?hy21_18⟩) (by assumption) ?rest21_18
  case hy21_18 =>
    intro w' hSw
    try dsimp only at hSw
    go_simp
    try with_reducible rfl
  try simp only [Act.put, List.setIfInBounds_toArray, List.set_cons_zero, List.set_cons_succ]
  refine wpAnyH_take (i := 22) (oi := { dst := some 95, op := Go.Op.move (Go.Operand.tmp 94), type := 4, pos := "law.go:55", after := #[{ on := 21, ground := Go.Ground.data }, { on := 19, ground := Go.Ground.chain }], guard := none }) (v := ?v22_19) rfl (by kernel_rfl) (by kernel_rfl) (by kernel_rfl) (fun _ _ _ h => h) (Or.inl ⟨by rfl, ?hy22_19⟩) (by assumption) ?rest22_19
  case hy22_19 =>
    intro w' hSw
    try dsimp only at hSw
    go_simp
    try with_reducible rfl
  try simp only [Act.put, List.setIfInBounds_toArray, List.set_cons_zero, List.set_cons_succ]
  refine' wpAnyH_take (i := 23) (oi := { dst := some 96, op := Go.Op.load 31 (Go.Operand.tmp 8), type := 31, pos := "law.go:55", after := #[{ on := 22, ground := Go.Ground.guard }], guard := some (22, true) }) (v := _) rfl (by kernel_rfl) (by kernel_rfl) (by kernel_rfl) (fun _ _ _ h => h) (yieldsIf_load_mid (by rfl) _ _ rfl _ _ rfl _ _ HLH.out UH.out.1 rfl UH.out.2) (by assumption) ?rest23_20
  try simp only [Act.put, List.setIfInBounds_toArray, List.set_cons_zero, List.set_cons_succ]
  refine wpAnyH_take (i := 25) (oi := { dst := some 98, op := Go.Op.move (Go.Operand.tmp 11), type := 3, pos := "law.go:55", after := #[{ on := 22, ground := Go.Ground.guard }], guard := some (22, true) }) (v := ?v25_21) rfl (by kernel_rfl) (by kernel_rfl) (by kernel_rfl) (fun _ _ _ h => h) (Or.inl ⟨by rfl, ?hy25_21⟩) (by assumption) ?rest25_21
  case hy25_21 =>
    intro w' hSw
    try dsimp only at hSw
    go_simp
    try with_reducible rfl
  try simp only [Act.put, List.setIfInBounds_toArray, List.set_cons_zero, List.set_cons_succ]
  refine wpAnyH_ready (rs := [24]) (by kernel_rfl) (by simp) ?_
  refine AllReadyH.cons (o := { dst := some 97, op := Go.Op.call { callee := Go.Callee.value (Go.Operand.func 16), args := #[Go.Operand.tmp 96], argTypes := #[31] }, type := 3, pos := "law.go:55", after := #[{ on := 23, ground := Go.Ground.data }, { on := 22, ground := Go.Ground.chain }, { on := 22, ground := Go.Ground.guard }], guard := some (22, true) }) rfl (fun K hK => ?_) AllReadyH.nil
  go_simp
  refine (KE.out _).mono ?_
  rintro e u4 ⟨rfl, gx⟩
  have G4 := Lib.hid (show w6.drew.grownBy u4 none from gb_trans G3.out gx)
  clear gx
  have p_u4 := HPG.out _ _ p0 G4.out
  go_wp2_with fail
  refine hK.out _ _ ?_ (fun hHeld2 => ?_)
  · first | assumption | go_keep
  clear hHeld
  have hHeld := hHeld2
  clear hK K hHeld2
  try simp only [Act.put, List.setIfInBounds_toArray, List.set_cons_zero, List.set_cons_succ]
  refine wpAnyH_take (i := 26) (oi := { dst := some 99, op := Go.Op.binOp Go.BinOp.eql 3 (Go.Operand.tmp 97) (Go.Operand.tmp 98) 3, type := 4, pos := "law.go:55", after := #[{ on := 24, ground := Go.Ground.data }, { on := 25, ground := Go.Ground.data }, { on := 22, ground := Go.Ground.guard }], guard := some (22, true) }) (v := ?v26_22) rfl (by kernel_rfl) (by kernel_rfl) (by kernel_rfl) (fun _ _ _ h => h) (Or.inl ⟨by rfl, ?hy26_22⟩) (by assumption) ?rest26_22
  case hy26_22 =>
    intro w' hSw
    try dsimp only at hSw
    go_simp
    try with_reducible rfl
  try simp only [Act.put, List.setIfInBounds_toArray, List.set_cons_zero, List.set_cons_succ]
  refine wpAnyH_take (i := 27) (oi := { dst := some 100, op := Go.Op.pick (Go.Operand.tmp 95) (Go.Operand.tmp 99) (Go.Operand.const (Go.Value.bool false)), type := 4, pos := "law.go:55", after := #[{ on := 22, ground := Go.Ground.data }, { on := 26, ground := Go.Ground.data }], guard := none }) (v := ?v27_23) rfl (by kernel_rfl) (by kernel_rfl) (by kernel_rfl) (fun _ _ _ h => h) (Or.inl ⟨by rfl, ?hy27_23⟩) (by assumption) ?rest27_23
  case hy27_23 =>
    intro w' hSw
    try dsimp only at hSw
    go_simp
    try with_reducible rfl
  try simp only [Act.put, List.setIfInBounds_toArray, List.set_cons_zero, List.set_cons_succ]
  refine wpAnyH_take (i := 28) (oi := { dst := some 101, op := Go.Op.move (Go.Operand.tmp 100), type := 4, pos := "law.go:55", after := #[{ on := 27, ground := Go.Ground.data }, { on := 24, ground := Go.Ground.chain }], guard := none }) (v := ?v28_24) rfl (by kernel_rfl) (by kernel_rfl) (by kernel_rfl) (fun _ _ _ h => h) (Or.inl ⟨by rfl, ?hy28_24⟩) (by assumption) ?rest28_24
  case hy28_24 =>
    intro w' hSw
    try dsimp only at hSw
    go_simp
    try with_reducible rfl
  try simp only [Act.put, List.setIfInBounds_toArray, List.set_cons_zero, List.set_cons_succ]
  refine wpAnyH_take (i := 29) (oi := { dst := some 102, op := Go.Op.fieldAddr 37 (Go.Operand.tmp 10) 0, type := 0, pos := "law.go:55", after := #[{ on := 28, ground := Go.Ground.guard }], guard := some (28, true) }) (v := ?v29_25) rfl (by kernel_rfl) (by kernel_rfl) (by kernel_rfl) (fun _ _ _ h => h) (Or.inl ⟨by rfl, ?hy29_25⟩) (by assumption) ?rest29_25
  case hy29_25 =>
    intro w' hSw
    try dsimp only at hSw
    go_simp
    try with_reducible rfl
  try simp only [Act.put, List.setIfInBounds_toArray, List.set_cons_zero, List.set_cons_succ]
  refine wpAnyH_take (i := 30) (oi := { dst := some 103, op := Go.Op.load 3 (Go.Operand.tmp 102), type := 3, pos := "law.go:55", after := #[{ on := 29, ground := Go.Ground.data }, { on := 28, ground := Go.Ground.guard }], guard := some (28, true) }) (v := ?v30_26) rfl (by kernel_rfl) (by kernel_rfl) (by kernel_rfl) (fun _ _ _ h => h) (Or.inl ⟨by rfl, ?hy30_26⟩) (by assumption) ?rest30_26
  case hy30_26 =>
    intro w' hSw
    try dsimp only at hSw
    go_simp
    try with_reducible rfl
  try simp only [Act.put, List.setIfInBounds_toArray, List.set_cons_zero, List.set_cons_succ]
  refine wpAnyH_ready (rs := [31]) (by kernel_rfl) (by simp) ?_
  refine AllReadyH.cons (o := { dst := some 104, op := Go.Op.call { callee := Go.Callee.value (Go.Operand.func 17), args := #[Go.Operand.tmp 103], argTypes := #[3] }, type := 4, pos := "law.go:55", after := #[{ on := 30, ground := Go.Ground.data }, { on := 28, ground := Go.Ground.chain }, { on := 28, ground := Go.Ground.guard }], guard := some (28, true) }) rfl (fun K hK => ?_) AllReadyH.nil
  go_simp
  refine (KK.out _).mono ?_
  rintro e w' ⟨rfl, rfl⟩
  go_wp2_with fail
  refine hK.out _ _ ?_ (fun hHeld2 => ?_)
  · first | assumption | go_keep
  clear hHeld
  have hHeld := hHeld2
  clear hK K hHeld2
  try simp only [Act.put, List.setIfInBounds_toArray, List.set_cons_zero, List.set_cons_succ]
  refine wpAnyH_take (i := 32) (oi := { dst := some 105, op := Go.Op.pick (Go.Operand.tmp 101) (Go.Operand.tmp 104) (Go.Operand.const (Go.Value.bool false)), type := 4, pos := "law.go:55", after := #[{ on := 28, ground := Go.Ground.data }, { on := 31, ground := Go.Ground.data }], guard := none }) (v := ?v32_27) rfl (by kernel_rfl) (by kernel_rfl) (by kernel_rfl) (fun _ _ _ h => h) (Or.inl ⟨by rfl, ?hy32_27⟩) (by assumption) ?rest32_27
  case hy32_27 =>
    intro w' hSw
    try dsimp only at hSw
    go_simp
    try with_reducible rfl
  try simp only [Act.put, List.setIfInBounds_toArray, List.set_cons_zero, List.set_cons_succ]
  refine wpAnyH_take (i := 33) (oi := { dst := some 106, op := Go.Op.move (Go.Operand.tmp 105), type := 4, pos := "law.go:55", after := #[{ on := 32, ground := Go.Ground.data }, { on := 31, ground := Go.Ground.chain }], guard := none }) (v := ?v33_28) rfl (by kernel_rfl) (by kernel_rfl) (by kernel_rfl) (fun _ _ _ h => h) (Or.inl ⟨by rfl, ?hy33_28⟩) (by assumption) ?rest33_28
  case hy33_28 =>
    intro w' hSw
    try dsimp only at hSw
    go_simp
    try with_reducible rfl
  try simp only [Act.put, List.setIfInBounds_toArray, List.set_cons_zero, List.set_cons_succ]
  refine wpAnyH_ready (rs := [34]) (by kernel_rfl) (by simp) ?_
  refine AllReadyH.cons (o := { dst := some 107, op := Go.Op.call { callee := Go.Callee.value (Go.Operand.func 7), args := #[], argTypes := #[] }, type := 4, pos := "law.go:55", after := #[{ on := 33, ground := Go.Ground.chain }, { on := 33, ground := Go.Ground.guard }], guard := some (33, true) }) rfl (fun K hK => ?_) AllReadyH.nil
  go_simp
  refine (KA.out _).mono ?_
  rintro e u5 ⟨rfl, gx⟩
  have G5 := Lib.hid (show w6.drew.grownBy u5 none from gb_trans G4.out gx)
  clear gx
  have p_u5 := HPG.out _ _ p0 G5.out
  go_wp2_with fail
  refine hK.out _ _ ?_ (fun hHeld2 => ?_)
  · first | assumption | go_keep
  clear hHeld
  have hHeld := hHeld2
  clear hK K hHeld2
  try simp only [Act.put, List.setIfInBounds_toArray, List.set_cons_zero, List.set_cons_succ]
  refine wpAnyH_take (i := 35) (oi := { dst := some 108, op := Go.Op.pick (Go.Operand.tmp 106) (Go.Operand.tmp 107) (Go.Operand.const (Go.Value.bool false)), type := 4, pos := "law.go:55", after := #[{ on := 33, ground := Go.Ground.data }, { on := 34, ground := Go.Ground.data }], guard := none }) (v := ?v35_29) rfl (by kernel_rfl) (by kernel_rfl) (by kernel_rfl) (fun _ _ _ h => h) (Or.inl ⟨by rfl, ?hy35_29⟩) (by assumption) ?rest35_29
  case hy35_29 =>
    intro w' hSw
    try dsimp only at hSw
    go_simp
    try with_reducible rfl
  try simp only [Act.put, List.setIfInBounds_toArray, List.set_cons_zero, List.set_cons_succ]
  refine wpAnyH_take (i := 36) (oi := { dst := some 6, op := Go.Op.assign (Go.Operand.tmp 108), type := 4, pos := "law.go:55", after := #[{ on := 35, ground := Go.Ground.data }, { on := 34, ground := Go.Ground.chain }, { on := 0, ground := Go.Ground.phase }, { on := 1, ground := Go.Ground.phase }, { on := 2, ground := Go.Ground.phase }, { on := 3, ground := Go.Ground.phase }, { on := 4, ground := Go.Ground.phase }, { on := 5, ground := Go.Ground.phase }, { on := 6, ground := Go.Ground.phase }, { on := 7, ground := Go.Ground.phase }, { on := 8, ground := Go.Ground.phase }, { on := 9, ground := Go.Ground.phase }, { on := 10, ground := Go.Ground.phase }, { on := 11, ground := Go.Ground.phase }, { on := 12, ground := Go.Ground.phase }, { on := 13, ground := Go.Ground.phase }, { on := 14, ground := Go.Ground.phase }, { on := 15, ground := Go.Ground.phase }, { on := 16, ground := Go.Ground.phase }, { on := 17, ground := Go.Ground.phase }, { on := 18, ground := Go.Ground.phase }, { on := 19, ground := Go.Ground.phase }, { on := 20, ground := Go.Ground.phase }, { on := 21, ground := Go.Ground.phase }, { on := 22, ground := Go.Ground.phase }, { on := 23, ground := Go.Ground.phase }, { on := 24, ground := Go.Ground.phase }, { on := 25, ground := Go.Ground.phase }, { on := 26, ground := Go.Ground.phase }, { on := 27, ground := Go.Ground.phase }, { on := 28, ground := Go.Ground.phase }, { on := 29, ground := Go.Ground.phase }, { on := 30, ground := Go.Ground.phase }, { on := 31, ground := Go.Ground.phase }, { on := 32, ground := Go.Ground.phase }, { on := 33, ground := Go.Ground.phase }, { on := 34, ground := Go.Ground.phase }, { on := 35, ground := Go.Ground.phase }], guard := none }) (v := ?v36_30) rfl (by kernel_rfl) (by kernel_rfl) (by kernel_rfl) (fun _ _ _ h => h) (Or.inl ⟨by rfl, ?hy36_30⟩) (by assumption) ?rest36_30
  case hy36_30 =>
    intro w' hSw
    try dsimp only at hSw
    go_simp
    try with_reducible rfl
  try simp only [Act.put, List.setIfInBounds_toArray, List.set_cons_zero, List.set_cons_succ]
  refine wpAnyH_done (by kernel_rfl) ?_ _
  have GG := Lib.hid (gb_trans HG6.out (gb_trans (gb_drew w6 none) G5.out))
  clear HG6 HS6 HPG
  go_wp2
  go_ret
  exact ⟨rfl, GG.out⟩

end Go.Proofs.YtikjfmpdfeaooaaDoor.Dh

/- Layer 20: the law DibheadReads, good heads of twelve bytes (written by wip/gen/dhl.py). -/
namespace Go.Proofs.YtikjfmpdfeaooaaDoor.Dh
open Go.ChangeShapes Go.WideShapes Go.ChangeAt Go.RowKit
open Go.Proofs.YtikjfmpdfeaooaaDoor.Le Go.Proofs.YtikjfmpdfeaooaaDoor.Sr Go.Proofs.YtikjfmpdfeaooaaDoor.Ma
set_option linter.unusedVariables false

set_option maxRecDepth 100000 in
set_option maxHeartbeats 16000000 in
theorem law_good12 (A B : ByteArray) (fm : Int) (W : World) (X Y D M C : Int) (tp : Bool) (s0 n0 s1 n1 s2 n2 s3 n3 m0 m1 m2 m3 : Int) (q : Nat) (y : St) (R : Int)
    (hA : A.size ≤ 100) (hB : B.size ≤ 300) (hlt : 0 < W.heap.size) (hT : Tab W) (KA0 : ∀ u, Calls Tryd.prog 7 #[] u fun e w' => e = .returned (.bool true) ∧ u.grownBy w' none) (KSM0 : ∀ (p : Nat) u, Calls Tryd.prog 12 #[.agg #[.int .i64 12, .int .i64 X, .int .i64 Y, .bool tp, .int .i64 D, .int .i64 M, .int .i64 C, .int .i64 s0, .int .i64 n0, .int .i64 s1, .int .i64 n1, .int .i64 s2, .int .i64 n2, .int .i64 s3, .int .i64 n3, .int .i64 (p : Nat)], .agg #[.int .i64 12, .int .i64 X, .int .i64 Y, .bool tp, .int .i64 D, .int .i64 M, .int .i64 C, .int .i64 m0, .int .i64 m1, .int .i64 m2, .int .i64 m3, .int .i64 (p : Nat), .int .i64 (q : Nat), .int .i64 0, .int .i64 0]] u fun e w' => e = .returned (.bool true) ∧ u.grownBy w' none) (KST0 : ∀ (p : Nat) u, Calls Tryd.prog 14 #[.agg #[.int .i64 12, .int .i64 X, .int .i64 Y, .bool tp, .int .i64 D, .int .i64 M, .int .i64 C, .int .i64 s0, .int .i64 n0, .int .i64 s1, .int .i64 n1, .int .i64 s2, .int .i64 n2, .int .i64 s3, .int .i64 n3, .int .i64 (p : Nat)]] u fun e w' => e = .returned (.int .i64 R) ∧ u.grownBy w' none) (KRS0 : ∀ (p : Nat) u, Calls Tryd.prog 15 #[.agg #[.int .i64 12, .int .i64 X, .int .i64 Y, .bool tp, .int .i64 D, .int .i64 M, .int .i64 C, .int .i64 m0, .int .i64 m1, .int .i64 m2, .int .i64 m3, .int .i64 (p : Nat), .int .i64 (q : Nat), .int .i64 0, .int .i64 0]] u fun e w' => e = .returned (.int .i64 R) ∧ u.grownBy w' none) (KE0 : ∀ (p : Nat) u, Calls Tryd.prog 16 #[.agg #[.int .i64 12, .int .i64 X, .int .i64 Y, .bool tp, .int .i64 D, .int .i64 M, .int .i64 C, .int .i64 s0, .int .i64 n0, .int .i64 s1, .int .i64 n1, .int .i64 s2, .int .i64 n2, .int .i64 s3, .int .i64 n3, .int .i64 (p : Nat)]] u fun e w' => e = .returned (.int .i64 3) ∧ u.grownBy w' none) (KK0 : ∀ u, Calls Tryd.prog 17 #[.int .i64 12] u fun e w' => e = .returned (.bool true) ∧ u = w') (RB : CRd (A ++ B) A.size fm (LW 1000 0) q y (.agg #[.int .i64 12, .int .i64 X, .int .i64 Y, .bool tp, .int .i64 D, .int .i64 M, .int .i64 C, .int .i64 s0, .int .i64 n0, .int .i64 s1, .int .i64 n1, .int .i64 s2, .int .i64 n2, .int .i64 s3, .int .i64 n3, .int .i64 (A.size : Nat)]) (flV 0 0 0) ∧ DRd (A ++ B) A.size #[.int .i64 12, .int .i64 X, .int .i64 Y, .bool tp, .int .i64 D, .int .i64 M, .int .i64 C, .int .i64 m0, .int .i64 m1, .int .i64 m2, .int .i64 m3, .int .i64 (A.size : Nat), .int .i64 (q : Nat), .int .i64 0, .int .i64 0]) :
    Calls Tryd.prog 3 #[.string A, .string B, .int .i64 fm] W fun e w' => e = .returned (.bool true) ∧ W.grownBy w' none := by
  have hTs : (A ++ B).size = A.size + B.size := ByteArray.size_append
  have d0 : decide ((300 : Int) < B.size) = false := decide_eq_false (by omega)
  have d1 : decide ((100 : Int) < A.size) = false := decide_eq_false (by omega)
  have ad : ∀ w, (Op.stringOp .add A B).run Tryd.prog w = .ok (.string (A ++ B)) w := fun w => run_string_add_sum w A B (by omega)
  have wadd : IntKind.i64.wrap ((A.size : Int) + (B.size : Int)) = ((A ++ B).size : Int) := by rw [IntWalk.i64_in _ (by omega)]; omega
  have KFR := Lib.hid (fun u => fresh_calls (A ++ B) u (by omega))
  have hpT : A.size ≤ (A ++ B).size := by omega
  have hTb : (A ++ B).size ≤ 400 := by omega
  obtain ⟨T, hT0⟩ : ∃ T, A ++ B = T := ⟨_, rfl⟩
  simp only [hT0] at ad wadd KFR hpT hTb RB
  clear hTs hT0
  obtain ⟨p, hp0⟩ : ∃ p, A.size = p := ⟨_, rfl⟩
  simp only [hp0] at d1 wadd hpT RB
  have HP := Lib.hid hp0
  clear hA hB
  have KRD := Lib.hid RB.1
  have KD := Lib.hid RB.2
  have KA := Lib.hid KA0
  have KSM := Lib.hid (KSM0 p)
  have KST := Lib.hid (KST0 p)
  have KRS := Lib.hid (KRS0 p)
  have KE := Lib.hid (KE0 p)
  have KK := Lib.hid KK0
  clear RB KA0 KSM0 KST0 KRS0 KE0 KK0
  unfold CRd flV at KRD
  unfold DRd at KD
  go_enter Tryd.func3, Tryd.ntmps3
  go_wp2_with fail
  refine (KFR.out _).mono ?_
  rintro e w1 ⟨c, l, rfl, S1, g1, hl, hc⟩
  have hbl := S1.so.bl
  have KSK := Lib.hid (show ∀ u, SL c l T 0 0 T.size (LW 1000 0) u → Calls Tryd.prog 9 #[.pointer (some ⟨c, 0, none⟩), .int .i64 (p : Nat)] u fun e w' => e = .returned (.bool true) ∧ SL c l T p 0 T.size (LW 1000 0) w' ∧ u.grownBy w' (some c) from fun u hu => (seek_yes c l T 0 0 T.size p u hu.so (by omega) hpT).mono (fun e w' ⟨he, h1, g⟩ => ⟨he, ⟨h1, hu.led.grown g (by intro h; injection h with h; omega)⟩, g⟩))
  have HS1 := Lib.hid S1
  have G1 := Lib.hid g1
  clear S1 g1 hpT hTb
  have hcl := Lib.hid (And.intro hc (And.intro hl hbl))
  clear hc hl hbl
  go_wp2_with fail
  refine (KSK.out _ HS1.out).mono ?_
  rintro e w2 ⟨rfl, S2, g2⟩
  have G2 := Lib.hid (gb_own G1.out hcl.out.1 g2)
  have HS2 := Lib.hid S2
  clear S2 g2 HS1 G1 KFR
  go_wp2_with fail
  refine (KRD.out c l 0 _ HS2.out (hT.grown hlt G2.out) (by have := hcl.out; omega) (by have := hcl.out; omega)).mono ?_
  rintro e w3 ⟨rfl, S3, t3⟩
  have G3 : W.grownBy w3 none := Tn.own G2.out t3 (by intro x hx; have := hcl.out; simp at hx; omega)
  have A4 : ((w3.alloc (.cells #[.int .i64 12, .int .i64 X, .int .i64 Y, .bool tp, .int .i64 D, .int .i64 M, .int .i64 C, .int .i64 s0, .int .i64 n0, .int .i64 s1, .int .i64 n1, .int .i64 s2, .int .i64 n2, .int .i64 s3, .int .i64 n3, .int .i64 (p : Nat)] 31)).alloc (.cells #[.int .i64 0, .int .i64 0, .int .i64 0] 33)).heap[w3.heap.size]? = some (.cells #[.int .i64 12, .int .i64 X, .int .i64 Y, .bool tp, .int .i64 D, .int .i64 M, .int .i64 C, .int .i64 s0, .int .i64 n0, .int .i64 s1, .int .i64 n1, .int .i64 s2, .int .i64 n2, .int .i64 s3, .int .i64 n3, .int .i64 (p : Nat)] 31 (0, 0)) := blk_al blk_at _
  have F4 : ((w3.alloc (.cells #[.int .i64 12, .int .i64 X, .int .i64 Y, .bool tp, .int .i64 D, .int .i64 M, .int .i64 C, .int .i64 s0, .int .i64 n0, .int .i64 s1, .int .i64 n1, .int .i64 s2, .int .i64 n2, .int .i64 s3, .int .i64 n3, .int .i64 (p : Nat)] 31)).alloc (.cells #[.int .i64 0, .int .i64 0, .int .i64 0] 33)).heap[w3.heap.size + 1]? = some (.cells #[.int .i64 0, .int .i64 0, .int .i64 0] 33 (0, 0)) := by
    rw [← size_alloc w3 (.cells #[.int .i64 12, .int .i64 X, .int .i64 Y, .bool tp, .int .i64 D, .int .i64 M, .int .i64 C, .int .i64 s0, .int .i64 n0, .int .i64 s1, .int .i64 n1, .int .i64 s2, .int .i64 n2, .int .i64 s3, .int .i64 n3, .int .i64 (p : Nat)] 31)]; exact blk_at
  have G4 := gb_trans G3 (gb_trans (World.grownBy_alloc w3 (.cells #[.int .i64 12, .int .i64 X, .int .i64 Y, .bool tp, .int .i64 D, .int .i64 M, .int .i64 C, .int .i64 s0, .int .i64 n0, .int .i64 s1, .int .i64 n1, .int .i64 s2, .int .i64 n2, .int .i64 s3, .int .i64 n3, .int .i64 (p : Nat)] 31) none) (World.grownBy_alloc (w3.alloc (.cells #[.int .i64 12, .int .i64 X, .int .i64 Y, .bool tp, .int .i64 D, .int .i64 M, .int .i64 C, .int .i64 s0, .int .i64 n0, .int .i64 s1, .int .i64 n1, .int .i64 s2, .int .i64 n2, .int .i64 s3, .int .i64 n3, .int .i64 (p : Nat)] 31)) (.cells #[.int .i64 0, .int .i64 0, .int .i64 0] 33) none))
  have S4 := S3.grown (gb_trans (World.grownBy_alloc w3 (.cells #[.int .i64 12, .int .i64 X, .int .i64 Y, .bool tp, .int .i64 D, .int .i64 M, .int .i64 C, .int .i64 s0, .int .i64 n0, .int .i64 s1, .int .i64 n1, .int .i64 s2, .int .i64 n2, .int .i64 s3, .int .i64 n3, .int .i64 (p : Nat)] 31) none) (World.grownBy_alloc (w3.alloc (.cells #[.int .i64 12, .int .i64 X, .int .i64 Y, .bool tp, .int .i64 D, .int .i64 M, .int .i64 C, .int .i64 s0, .int .i64 n0, .int .i64 s1, .int .i64 n1, .int .i64 s2, .int .i64 n2, .int .i64 s3, .int .i64 n3, .int .i64 (p : Nat)] 31)) (.cells #[.int .i64 0, .int .i64 0, .int .i64 0] 33) none))
  clear S3 G3 t3 HS2 G2 KSK
  go_upto_region 7 with fail
  obtain ⟨hb, hhb⟩ : ∃ k, w3.heap.size = k := ⟨_, rfl⟩
  rw [hhb] at A4 F4 ⊢
  generalize (w3.alloc (.cells #[.int .i64 12, .int .i64 X, .int .i64 Y, .bool tp, .int .i64 D, .int .i64 M, .int .i64 C, .int .i64 s0, .int .i64 n0, .int .i64 s1, .int .i64 n1, .int .i64 s2, .int .i64 n2, .int .i64 s3, .int .i64 n3, .int .i64 (p : Nat)] 31)).alloc (.cells #[.int .i64 0, .int .i64 0, .int .i64 0] 33) = w4 at A4 F4 G4 S4 ⊢
  clear hhb
  have HA4 := Lib.hid A4
  have HF4 := Lib.hid F4
  have HG4 := Lib.hid G4
  have HS4 := Lib.hid S4
  clear A4 F4 G4 S4
  go_wp2_with fail
  refine (KD.out _).mono ?_
  rintro e w5 ⟨rfl, g5⟩
  have ga := gb_trans g5 (World.grownBy_alloc w5 (.cells #[.int .i64 12, .int .i64 X, .int .i64 Y, .bool tp, .int .i64 D, .int .i64 M, .int .i64 C, .int .i64 m0, .int .i64 m1, .int .i64 m2, .int .i64 m3, .int .i64 (p : Nat), .int .i64 (q : Nat), .int .i64 0, .int .i64 0] 37) none)
  have A6 := old0 ga HA4.out (blk_lt HA4.out) (by simp)
  have F6 := old0 ga HF4.out (blk_lt HF4.out) (by simp)
  have G6 := gb_trans HG4.out ga
  have S6 := HS4.out.grown ga
  have D6 : (w5.alloc (.cells #[.int .i64 12, .int .i64 X, .int .i64 Y, .bool tp, .int .i64 D, .int .i64 M, .int .i64 C, .int .i64 m0, .int .i64 m1, .int .i64 m2, .int .i64 m3, .int .i64 (p : Nat), .int .i64 (q : Nat), .int .i64 0, .int .i64 0] 37)).heap[w5.heap.size]? = some (.cells #[.int .i64 12, .int .i64 X, .int .i64 Y, .bool tp, .int .i64 D, .int .i64 M, .int .i64 C, .int .i64 m0, .int .i64 m1, .int .i64 m2, .int .i64 m3, .int .i64 (p : Nat), .int .i64 (q : Nat), .int .i64 0, .int .i64 0] 37 (0, 0)) := blk_at
  clear g5 ga HA4 HF4 HG4 HS4
  go_upto_region 8 with fail
  obtain ⟨db, hdb⟩ : ∃ k, w5.heap.size = k := ⟨_, rfl⟩
  rw [hdb] at D6 ⊢
  generalize w5.alloc (.cells #[.int .i64 12, .int .i64 X, .int .i64 Y, .bool tp, .int .i64 D, .int .i64 M, .int .i64 C, .int .i64 m0, .int .i64 m1, .int .i64 m2, .int .i64 m3, .int .i64 (p : Nat), .int .i64 (q : Nat), .int .i64 0, .int .i64 0] 37) = w6 at A6 F6 D6 G6 S6 ⊢
  clear hdb
  have d13 := blk_cell D6 13
  have d00 := blk_cell D6 0
  simp only [List.getElem?_toArray, List.getElem?_cons_succ, List.getElem?_cons_zero] at d13 d00
  have HA6 := Lib.hid A6
  have HF6 := Lib.hid F6
  have HD6 := Lib.hid D6
  have HG6 := Lib.hid G6
  have HS6 := Lib.hid S6
  clear A6 F6 D6 G6 S6
  go_upto_region 13 with fail
  exact tail13 W 12 X Y D M C tp s0 n0 s1 n1 s2 n2 s3 n3 m0 m1 m2 m3 p q y R 3 T c l hb db w6 HA6.out HF6.out HD6.out HG6.out HS6.out KSM.out KST.out KRS.out KE.out KK.out KA.out _ _ _ _ _ _ _ _ _ _ _ _ _ _ _ _ _ _ _ _ _ _ _ _ _ _ _ _ _ _ _ _ _ _ _ _ _ _ _ _ _ _ _ _ _ _ _ _ _ _ _ _ _ _ _ _ _ _ _ _ _ _ _ _ _ _ _ _ _ _ _ _ _ _ _ _ _ _ _ _ _ _ _ _ _ _ _ _ _ _ _ _ _ _ _ _ _ _ _ _ _ _ _ _ (by assumption)

end Go.Proofs.YtikjfmpdfeaooaaDoor.Dh

/- Layer 20: the law DibheadReads, good heads (written by wip/gen/dhl.py). -/
namespace Go.Proofs.YtikjfmpdfeaooaaDoor.Dh
open Go.ChangeShapes Go.WideShapes Go.ChangeAt Go.RowKit
open Go.Proofs.YtikjfmpdfeaooaaDoor.Le Go.Proofs.YtikjfmpdfeaooaaDoor.Sr Go.Proofs.YtikjfmpdfeaooaaDoor.Ma
set_option linter.unusedVariables false

set_option maxRecDepth 100000 in
set_option maxHeartbeats 16000000 in
theorem law_good (A B : ByteArray) (fm : Int) (W : World) (S X Y D M C : Int) (tp : Bool) (s0 n0 s1 n1 s2 n2 s3 n3 m0 m1 m2 m3 : Int) (q : Nat) (y : St) (R : Int) (h12 : (S == 12) = false)
    (hA : A.size ≤ 100) (hB : B.size ≤ 300) (hlt : 0 < W.heap.size) (hT : Tab W) (KA0 : ∀ u, Calls Tryd.prog 7 #[] u fun e w' => e = .returned (.bool true) ∧ u.grownBy w' none) (KSM0 : ∀ (p : Nat) u, Calls Tryd.prog 12 #[.agg #[.int .i64 S, .int .i64 X, .int .i64 Y, .bool tp, .int .i64 D, .int .i64 M, .int .i64 C, .int .i64 s0, .int .i64 n0, .int .i64 s1, .int .i64 n1, .int .i64 s2, .int .i64 n2, .int .i64 s3, .int .i64 n3, .int .i64 (p : Nat)], .agg #[.int .i64 S, .int .i64 X, .int .i64 Y, .bool tp, .int .i64 D, .int .i64 M, .int .i64 C, .int .i64 m0, .int .i64 m1, .int .i64 m2, .int .i64 m3, .int .i64 (p : Nat), .int .i64 (q : Nat), .int .i64 0, .int .i64 0]] u fun e w' => e = .returned (.bool true) ∧ u.grownBy w' none) (KST0 : ∀ (p : Nat) u, Calls Tryd.prog 14 #[.agg #[.int .i64 S, .int .i64 X, .int .i64 Y, .bool tp, .int .i64 D, .int .i64 M, .int .i64 C, .int .i64 s0, .int .i64 n0, .int .i64 s1, .int .i64 n1, .int .i64 s2, .int .i64 n2, .int .i64 s3, .int .i64 n3, .int .i64 (p : Nat)]] u fun e w' => e = .returned (.int .i64 R) ∧ u.grownBy w' none) (KRS0 : ∀ (p : Nat) u, Calls Tryd.prog 15 #[.agg #[.int .i64 S, .int .i64 X, .int .i64 Y, .bool tp, .int .i64 D, .int .i64 M, .int .i64 C, .int .i64 m0, .int .i64 m1, .int .i64 m2, .int .i64 m3, .int .i64 (p : Nat), .int .i64 (q : Nat), .int .i64 0, .int .i64 0]] u fun e w' => e = .returned (.int .i64 R) ∧ u.grownBy w' none) (KE0 : ∀ (p : Nat) u, Calls Tryd.prog 16 #[.agg #[.int .i64 S, .int .i64 X, .int .i64 Y, .bool tp, .int .i64 D, .int .i64 M, .int .i64 C, .int .i64 s0, .int .i64 n0, .int .i64 s1, .int .i64 n1, .int .i64 s2, .int .i64 n2, .int .i64 s3, .int .i64 n3, .int .i64 (p : Nat)]] u fun e w' => e = .returned (.int .i64 4) ∧ u.grownBy w' none) (KK0 : ∀ u, Calls Tryd.prog 17 #[.int .i64 S] u fun e w' => e = .returned (.bool true) ∧ u = w') (RB : CRd (A ++ B) A.size fm (LW 1000 0) q y (.agg #[.int .i64 S, .int .i64 X, .int .i64 Y, .bool tp, .int .i64 D, .int .i64 M, .int .i64 C, .int .i64 s0, .int .i64 n0, .int .i64 s1, .int .i64 n1, .int .i64 s2, .int .i64 n2, .int .i64 s3, .int .i64 n3, .int .i64 (A.size : Nat)]) (flV 0 0 0) ∧ DRd (A ++ B) A.size #[.int .i64 S, .int .i64 X, .int .i64 Y, .bool tp, .int .i64 D, .int .i64 M, .int .i64 C, .int .i64 m0, .int .i64 m1, .int .i64 m2, .int .i64 m3, .int .i64 (A.size : Nat), .int .i64 (q : Nat), .int .i64 0, .int .i64 0]) :
    Calls Tryd.prog 3 #[.string A, .string B, .int .i64 fm] W fun e w' => e = .returned (.bool true) ∧ W.grownBy w' none := by
  have hTs : (A ++ B).size = A.size + B.size := ByteArray.size_append
  have d0 : decide ((300 : Int) < B.size) = false := decide_eq_false (by omega)
  have d1 : decide ((100 : Int) < A.size) = false := decide_eq_false (by omega)
  have ad : ∀ w, (Op.stringOp .add A B).run Tryd.prog w = .ok (.string (A ++ B)) w := fun w => run_string_add_sum w A B (by omega)
  have wadd : IntKind.i64.wrap ((A.size : Int) + (B.size : Int)) = ((A ++ B).size : Int) := by rw [IntWalk.i64_in _ (by omega)]; omega
  have KFR := Lib.hid (fun u => fresh_calls (A ++ B) u (by omega))
  have hpT : A.size ≤ (A ++ B).size := by omega
  have hTb : (A ++ B).size ≤ 400 := by omega
  obtain ⟨T, hT0⟩ : ∃ T, A ++ B = T := ⟨_, rfl⟩
  simp only [hT0] at ad wadd KFR hpT hTb RB
  clear hTs hT0
  obtain ⟨p, hp0⟩ : ∃ p, A.size = p := ⟨_, rfl⟩
  simp only [hp0] at d1 wadd hpT RB
  have HP := Lib.hid hp0
  clear hA hB
  have KRD := Lib.hid RB.1
  have KD := Lib.hid RB.2
  have KA := Lib.hid KA0
  have KSM := Lib.hid (KSM0 p)
  have KST := Lib.hid (KST0 p)
  have KRS := Lib.hid (KRS0 p)
  have KE := Lib.hid (KE0 p)
  have KK := Lib.hid KK0
  clear RB KA0 KSM0 KST0 KRS0 KE0 KK0
  unfold CRd flV at KRD
  unfold DRd at KD
  go_enter Tryd.func3, Tryd.ntmps3
  go_wp2_with fail
  refine (KFR.out _).mono ?_
  rintro e w1 ⟨c, l, rfl, S1, g1, hl, hc⟩
  have hbl := S1.so.bl
  have KSK := Lib.hid (show ∀ u, SL c l T 0 0 T.size (LW 1000 0) u → Calls Tryd.prog 9 #[.pointer (some ⟨c, 0, none⟩), .int .i64 (p : Nat)] u fun e w' => e = .returned (.bool true) ∧ SL c l T p 0 T.size (LW 1000 0) w' ∧ u.grownBy w' (some c) from fun u hu => (seek_yes c l T 0 0 T.size p u hu.so (by omega) hpT).mono (fun e w' ⟨he, h1, g⟩ => ⟨he, ⟨h1, hu.led.grown g (by intro h; injection h with h; omega)⟩, g⟩))
  have HS1 := Lib.hid S1
  have G1 := Lib.hid g1
  clear S1 g1 hpT hTb
  have hcl := Lib.hid (And.intro hc (And.intro hl hbl))
  clear hc hl hbl
  go_wp2_with fail
  refine (KSK.out _ HS1.out).mono ?_
  rintro e w2 ⟨rfl, S2, g2⟩
  have G2 := Lib.hid (gb_own G1.out hcl.out.1 g2)
  have HS2 := Lib.hid S2
  clear S2 g2 HS1 G1 KFR
  go_wp2_with fail
  refine (KRD.out c l 0 _ HS2.out (hT.grown hlt G2.out) (by have := hcl.out; omega) (by have := hcl.out; omega)).mono ?_
  rintro e w3 ⟨rfl, S3, t3⟩
  have G3 : W.grownBy w3 none := Tn.own G2.out t3 (by intro x hx; have := hcl.out; simp at hx; omega)
  have A4 : ((w3.alloc (.cells #[.int .i64 S, .int .i64 X, .int .i64 Y, .bool tp, .int .i64 D, .int .i64 M, .int .i64 C, .int .i64 s0, .int .i64 n0, .int .i64 s1, .int .i64 n1, .int .i64 s2, .int .i64 n2, .int .i64 s3, .int .i64 n3, .int .i64 (p : Nat)] 31)).alloc (.cells #[.int .i64 0, .int .i64 0, .int .i64 0] 33)).heap[w3.heap.size]? = some (.cells #[.int .i64 S, .int .i64 X, .int .i64 Y, .bool tp, .int .i64 D, .int .i64 M, .int .i64 C, .int .i64 s0, .int .i64 n0, .int .i64 s1, .int .i64 n1, .int .i64 s2, .int .i64 n2, .int .i64 s3, .int .i64 n3, .int .i64 (p : Nat)] 31 (0, 0)) := blk_al blk_at _
  have F4 : ((w3.alloc (.cells #[.int .i64 S, .int .i64 X, .int .i64 Y, .bool tp, .int .i64 D, .int .i64 M, .int .i64 C, .int .i64 s0, .int .i64 n0, .int .i64 s1, .int .i64 n1, .int .i64 s2, .int .i64 n2, .int .i64 s3, .int .i64 n3, .int .i64 (p : Nat)] 31)).alloc (.cells #[.int .i64 0, .int .i64 0, .int .i64 0] 33)).heap[w3.heap.size + 1]? = some (.cells #[.int .i64 0, .int .i64 0, .int .i64 0] 33 (0, 0)) := by
    rw [← size_alloc w3 (.cells #[.int .i64 S, .int .i64 X, .int .i64 Y, .bool tp, .int .i64 D, .int .i64 M, .int .i64 C, .int .i64 s0, .int .i64 n0, .int .i64 s1, .int .i64 n1, .int .i64 s2, .int .i64 n2, .int .i64 s3, .int .i64 n3, .int .i64 (p : Nat)] 31)]; exact blk_at
  have G4 := gb_trans G3 (gb_trans (World.grownBy_alloc w3 (.cells #[.int .i64 S, .int .i64 X, .int .i64 Y, .bool tp, .int .i64 D, .int .i64 M, .int .i64 C, .int .i64 s0, .int .i64 n0, .int .i64 s1, .int .i64 n1, .int .i64 s2, .int .i64 n2, .int .i64 s3, .int .i64 n3, .int .i64 (p : Nat)] 31) none) (World.grownBy_alloc (w3.alloc (.cells #[.int .i64 S, .int .i64 X, .int .i64 Y, .bool tp, .int .i64 D, .int .i64 M, .int .i64 C, .int .i64 s0, .int .i64 n0, .int .i64 s1, .int .i64 n1, .int .i64 s2, .int .i64 n2, .int .i64 s3, .int .i64 n3, .int .i64 (p : Nat)] 31)) (.cells #[.int .i64 0, .int .i64 0, .int .i64 0] 33) none))
  have S4 := S3.grown (gb_trans (World.grownBy_alloc w3 (.cells #[.int .i64 S, .int .i64 X, .int .i64 Y, .bool tp, .int .i64 D, .int .i64 M, .int .i64 C, .int .i64 s0, .int .i64 n0, .int .i64 s1, .int .i64 n1, .int .i64 s2, .int .i64 n2, .int .i64 s3, .int .i64 n3, .int .i64 (p : Nat)] 31) none) (World.grownBy_alloc (w3.alloc (.cells #[.int .i64 S, .int .i64 X, .int .i64 Y, .bool tp, .int .i64 D, .int .i64 M, .int .i64 C, .int .i64 s0, .int .i64 n0, .int .i64 s1, .int .i64 n1, .int .i64 s2, .int .i64 n2, .int .i64 s3, .int .i64 n3, .int .i64 (p : Nat)] 31)) (.cells #[.int .i64 0, .int .i64 0, .int .i64 0] 33) none))
  clear S3 G3 t3 HS2 G2 KSK
  go_upto_region 7 with fail
  obtain ⟨hb, hhb⟩ : ∃ k, w3.heap.size = k := ⟨_, rfl⟩
  rw [hhb] at A4 F4 ⊢
  generalize (w3.alloc (.cells #[.int .i64 S, .int .i64 X, .int .i64 Y, .bool tp, .int .i64 D, .int .i64 M, .int .i64 C, .int .i64 s0, .int .i64 n0, .int .i64 s1, .int .i64 n1, .int .i64 s2, .int .i64 n2, .int .i64 s3, .int .i64 n3, .int .i64 (p : Nat)] 31)).alloc (.cells #[.int .i64 0, .int .i64 0, .int .i64 0] 33) = w4 at A4 F4 G4 S4 ⊢
  clear hhb
  have HA4 := Lib.hid A4
  have HF4 := Lib.hid F4
  have HG4 := Lib.hid G4
  have HS4 := Lib.hid S4
  clear A4 F4 G4 S4
  go_wp2_with fail
  refine (KD.out _).mono ?_
  rintro e w5 ⟨rfl, g5⟩
  have ga := gb_trans g5 (World.grownBy_alloc w5 (.cells #[.int .i64 S, .int .i64 X, .int .i64 Y, .bool tp, .int .i64 D, .int .i64 M, .int .i64 C, .int .i64 m0, .int .i64 m1, .int .i64 m2, .int .i64 m3, .int .i64 (p : Nat), .int .i64 (q : Nat), .int .i64 0, .int .i64 0] 37) none)
  have A6 := old0 ga HA4.out (blk_lt HA4.out) (by simp)
  have F6 := old0 ga HF4.out (blk_lt HF4.out) (by simp)
  have G6 := gb_trans HG4.out ga
  have S6 := HS4.out.grown ga
  have D6 : (w5.alloc (.cells #[.int .i64 S, .int .i64 X, .int .i64 Y, .bool tp, .int .i64 D, .int .i64 M, .int .i64 C, .int .i64 m0, .int .i64 m1, .int .i64 m2, .int .i64 m3, .int .i64 (p : Nat), .int .i64 (q : Nat), .int .i64 0, .int .i64 0] 37)).heap[w5.heap.size]? = some (.cells #[.int .i64 S, .int .i64 X, .int .i64 Y, .bool tp, .int .i64 D, .int .i64 M, .int .i64 C, .int .i64 m0, .int .i64 m1, .int .i64 m2, .int .i64 m3, .int .i64 (p : Nat), .int .i64 (q : Nat), .int .i64 0, .int .i64 0] 37 (0, 0)) := blk_at
  clear g5 ga HA4 HF4 HG4 HS4
  go_upto_region 8 with fail
  obtain ⟨db, hdb⟩ : ∃ k, w5.heap.size = k := ⟨_, rfl⟩
  rw [hdb] at D6 ⊢
  generalize w5.alloc (.cells #[.int .i64 S, .int .i64 X, .int .i64 Y, .bool tp, .int .i64 D, .int .i64 M, .int .i64 C, .int .i64 m0, .int .i64 m1, .int .i64 m2, .int .i64 m3, .int .i64 (p : Nat), .int .i64 (q : Nat), .int .i64 0, .int .i64 0] 37) = w6 at A6 F6 D6 G6 S6 ⊢
  clear hdb
  have d13 := blk_cell D6 13
  have d00 := blk_cell D6 0
  simp only [List.getElem?_toArray, List.getElem?_cons_succ, List.getElem?_cons_zero] at d13 d00
  have HA6 := Lib.hid A6
  have HF6 := Lib.hid F6
  have HD6 := Lib.hid D6
  have HG6 := Lib.hid G6
  have HS6 := Lib.hid S6
  clear A6 F6 D6 G6 S6
  go_upto_region 13 with fail
  exact tail13 W S X Y D M C tp s0 n0 s1 n1 s2 n2 s3 n3 m0 m1 m2 m3 p q y R 4 T c l hb db w6 HA6.out HF6.out HD6.out HG6.out HS6.out KSM.out KST.out KRS.out KE.out KK.out KA.out _ _ _ _ _ _ _ _ _ _ _ _ _ _ _ _ _ _ _ _ _ _ _ _ _ _ _ _ _ _ _ _ _ _ _ _ _ _ _ _ _ _ _ _ _ _ _ _ _ _ _ _ _ _ _ _ _ _ _ _ _ _ _ _ _ _ _ _ _ _ _ _ _ _ _ _ _ _ _ _ _ _ _ _ _ _ _ _ _ _ _ _ _ _ _ _ _ _ _ _ _ _ _ _ (by assumption)

end Go.Proofs.YtikjfmpdfeaooaaDoor.Dh
