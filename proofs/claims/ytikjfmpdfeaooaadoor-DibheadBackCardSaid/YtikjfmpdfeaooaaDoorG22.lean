/- Texts of one kind, one behind the other: DhJ, DhK1, DhK2, DhS. -/
import Derived.Deep.LoopGhost
import Derived.Deep.RegionHeld3
import Derived.Test.YtikjfmpdfeaooaaDoorG16
import Derived.Test.YtikjfmpdfeaooaaDoorG18
import Derived.Test.YtikjfmpdfeaooaaDoorG20
import Derived.Test.YtikjfmpdfeaooaaDoorG21
import Derived.Test.YtikjfmpdfeaooaaDoorG23
import Derived.Test.YtikjfmpdfeaooaaDoorG24
import Derived.Test.YtikjfmpdfeaooaaDoorG25
import Derived.Test.YtikjfmpdfeaooaaDoorG28
import Derived.Test.YtikjfmpdfeaooaaDoorG29
import Derived.Test.YtikjfmpdfeaooaaDoorG31
/- Layer 20: what a head is, by the code and by the document: what both sides' walks are joined by. -/
namespace Go.Proofs.YtikjfmpdfeaooaaDoor.Dh
open Go.ChangeShapes Go.WideShapes Go.ChangeAt Go.RowKit
open Go.Proofs.YtikjfmpdfeaooaaDoor.Le Go.Proofs.YtikjfmpdfeaooaaDoor.Sr Go.Proofs.YtikjfmpdfeaooaaDoor.Ma
set_option linter.unusedVariables false

/-- A ledger by which n steps more are let. -/
structure GW (n : Int) (x : St) : Prop where
  ok : x.Ok
  r : x.r = 0
  st : x.st + n ≤ x.s
theorem GW.work {n : Int} {x : St} (h : GW n x) (hn : 1 ≤ n) : x.work 1 = ({ x with st := x.st + 1 }, true) := by
  have := h.st
  unfold St.work
  rw [if_neg (by rw [h.r]; decide), if_neg (by omega)]
theorem GW.step {n : Int} {x : St} (h : GW n x) (hn : 1 ≤ n) : GW (n - 1) (x.work 1).1 := by
  have hs := h.st
  refine ⟨h.ok.work 1, ?_, ?_⟩
  · rw [h.work hn]; exact h.r
  · rw [h.work hn]
    show x.st + 1 + (n - 1) ≤ x.s
    omega
theorem GW.rd {n : Int} {x : St} (h : GW n x) (hn : 1 ≤ n) {p t : Nat} {k : Int} (h0 : 0 ≤ k) (h1 : (p : Int) + k ≤ t) : rdB x p t k = true := by
  unfold rdB canB
  rw [h.work hn]
  simp [h0, show k ≤ (t : Int) - p from by omega]
theorem GW.no {n : Int} {x : St} (h : GW n x) (hn : 1 ≤ n) {p t : Nat} {k : Int} (h1 : (t : Int) < (p : Int) + k) : rdB x p t k = false := by
  unfold rdB canB
  rw [h.work hn]
  simp [show ¬ k ≤ (t : Int) - p from by omega]
theorem GW.lw {m k n : Int} (hm : m ≤ 9223372036854775807) (k0 : 0 ≤ k) (hn : 0 ≤ n) (h : k + n ≤ m) : GW n (LW m k) := ⟨LW_ok hm k0 (by omega), rfl, h⟩

abbrev Z16 : Array Value := #[.int .i64 0, .int .i64 0, .int .i64 0, .bool false, .int .i64 0, .int .i64 0, .int .i64 0, .int .i64 0, .int .i64 0, .int .i64 0, .int .i64 0, .int .i64 0, .int .i64 0, .int .i64 0, .int .i64 0, .int .i64 0]

/-- The code's Read from a place of a text on, by any ledger's state x, ends so. -/
def CRd (T : ByteArray) (p : Nat) (fm : Int) (x : St) (q : Nat) (y : St) (hv fv : Value) : Prop :=
  ∀ (b l f : Nat) (W : World), SL b l T p f T.size x W → Tab W → 0 ≠ b → 0 ≠ l →
    Calls Tryd.prog 10 #[.pointer (some ⟨b, 0, none⟩), .int .i64 fm] W fun e w' => e = .returned (.tuple #[hv, fv]) ∧ SL b l T q f T.size y w' ∧ Tn W w' [b, l]
/-- The document's Read from there on. -/
def DRd (T : ByteArray) (p : Nat) (rv : Array Value) : Prop :=
  ∀ W : World, Calls Tryd.prog 11 #[.string T, .int .i64 (p : Nat), .int .i64 (T.size : Nat)] W fun e w' => e = .returned (.agg rv) ∧ W.grownBy w' none
/-- A head's numbers as they may be. -/
structure GH (S X Y D M C : Int) : Prop where
  s : rdH S = true
  x1 : 1 ≤ X
  x2 : X ≤ 16384
  y1 : 1 ≤ Y
  y2 : Y ≤ 16384
  d : D = 1 ∨ D = 4 ∨ D = 8 ∨ D = 16 ∨ D = 24 ∨ D = 32
  m1 : 0 ≤ M
  m2 : M ≤ 3
  c1 : 0 ≤ C
  c2 : C ≤ 256
  d3 : M = 3 → D = 16 ∨ D = 32
  p8 : M = 1 → D = 8
  p4 : M = 2 → D = 4
  c8 : D = 1 ∨ D = 4 ∨ D = 8 → 1 ≤ C ∧ C ≤ allC D
/-- A head is bad, or good, for both. -/
def BadR (T : ByteArray) (p : Nat) (fm : Int) (x : St) : Prop := ∃ (kk a0 : Int) (q : Nat) (y : St), 1 ≤ kk ∧ kk ≤ 3 ∧ CRd T p fm x q y (.agg Z16) (flV kk fm a0) ∧ DRd T p (badA kk a0)
def GoodR (T : ByteArray) (p : Nat) (fm : Int) (x : St) : Prop := ∃ (S X Y D M C : Int) (tp : Bool) (s n : Nat → Nat) (q : Nat) (y : St),
  GH S X Y D M C ∧ (M = 1 ∨ M = 2 → tp = false) ∧ (∀ k, k < 4 → okP (s k) (n k)) ∧ p + 12 ≤ q ∧ q ≤ T.size ∧ (y = ((x.work 1).1.work 1).1 ∨ y = (((x.work 1).1.work 1).1.work 1).1) ∧
  CRd T p fm x q y (.agg #[.int .i64 S, .int .i64 X, .int .i64 Y, .bool tp, .int .i64 D, .int .i64 M, .int .i64 C, .int .i64 (s 0 : Nat), .int .i64 (n 0 : Nat), .int .i64 (s 1 : Nat), .int .i64 (n 1 : Nat), .int .i64 (s 2 : Nat), .int .i64 (n 2 : Nat), .int .i64 (s 3 : Nat), .int .i64 (n 3 : Nat), .int .i64 (p : Nat)]) (flV 0 0 0) ∧
  DRd T p #[.int .i64 S, .int .i64 X, .int .i64 Y, .bool tp, .int .i64 D, .int .i64 M, .int .i64 C, .int .i64 (maskW (s 0) (n 0) : Nat), .int .i64 (maskW (s 1) (n 1) : Nat), .int .i64 (maskW (s 2) (n 2) : Nat), .int .i64 (maskW (s 3) (n 3) : Nat), .int .i64 (p : Nat), .int .i64 (q : Nat), .int .i64 0, .int .i64 0]

theorem kd_bd {K : Nat} (h : K < 10) : 1 ≤ kdD K ∧ kdD K ≤ 3 := by
  obtain rfl | rfl | rfl | rfl | rfl | rfl | rfl | rfl | rfl | rfl : K = 0 ∨ K = 1 ∨ K = 2 ∨ K = 3 ∨ K = 4 ∨ K = 5 ∨ K = 6 ∨ K = 7 ∨ K = 8 ∨ K = 9 := by omega
  all_goals decide
theorem pl_bd {S : Int} {K : Nat} (h : K < 10) : 0 ≤ plD S K ∧ plD S K ≤ 32 := by
  obtain rfl | rfl | rfl | rfl | rfl | rfl | rfl | rfl | rfl | rfl : K = 0 ∨ K = 1 ∨ K = 2 ∨ K = 3 ∨ K = 4 ∨ K = 5 ∨ K = 6 ∨ K = 7 ∨ K = 8 ∨ K = 9 := by omega
  all_goals
    simp only [plD]
    try split
    all_goals omega

/-- Where nothing is wrong with a head's numbers. -/
theorem good_head {S X Y P D M C : Int} (hS : rdH S = true) (hM : 0 ≤ M) (hC : 0 ≤ C) (F : FstB (ckD S X Y P D M C) 10) : GH S X (fa Y) D M (clrC D C) ∧ (M = 1 ∨ M = 2 → decide (Y < 0) = false) := by
  have h0 : ¬ X < 1 := of_decide_eq_false (F.no 0 (by omega))
  have h1 : ¬ 16384 < X := of_decide_eq_false (F.no 1 (by omega))
  have h2 : ¬ Y = 0 := beq_eq_false_iff_ne.1 (F.no 2 (by omega))
  have h3 : ¬ 16384 < fa Y := of_decide_eq_false (F.no 3 (by omega))
  have h5 : dpH D S = true := by
    have := F.no 5 (by omega)
    simpa [ckD] using this
  have h5 := of_decide_eq_true h5
  have h6 : ¬ 3 < M := of_decide_eq_false (F.no 6 (by omega))
  have h7 : ftH M D = true := by
    have := F.no 7 (by omega)
    simpa [ckD] using this
  have h7 := of_decide_eq_true h7
  have h8 : (pkH M && decide (Y < 0)) = false := F.no 8 (by omega)
  have h9 : ¬ mstC D < C := of_decide_eq_false (F.no 9 (by omega))
  have hfa : 0 ≤ fa Y ∧ fa Y ≠ 0 := by unfold fa; split <;> omega
  have hcl : 0 ≤ clrC D C ∧ clrC D C ≤ 256 ∧ (D = 1 ∨ D = 4 ∨ D = 8 → 1 ≤ clrC D C ∧ clrC D C ≤ allC D) := by
    unfold clrC allC
    unfold mstC at h9
    by_cases d1 : D = 1
    · rw [if_pos d1] at h9; rw [if_pos d1]; split <;> omega
    by_cases d4 : D = 4
    · rw [if_neg d1, if_pos d4] at h9; rw [if_neg d1, if_pos d4]; split <;> omega
    · rw [if_neg d1, if_neg d4] at h9; rw [if_neg d1, if_neg d4]
      split <;> split <;> omega
  refine ⟨⟨hS, by omega, by omega, by omega, by omega, by omega, hM, by omega, hcl.1, hcl.2.1, fun h => by omega, fun h => by omega, fun h => by omega, hcl.2.2⟩, fun h => ?_⟩
  have hp : pkH M = true := decide_eq_true h
  rw [hp] at h8
  simpa using h8

/-- The places of masks that are not told. -/
theorem common_places (D : Int) : ∃ s n : Nat → Nat, (∀ k, k < 4 → okP (s k) (n k)) ∧ cmV D 0 = (s 0 : Nat) ∧ cmV D 1 = (n 0 : Nat) ∧ cmV D 2 = (s 1 : Nat) ∧ cmV D 3 = (n 1 : Nat) ∧ cmV D 4 = (s 2 : Nat) ∧ cmV D 5 = (n 2 : Nat) ∧ cmV D 6 = (s 3 : Nat) ∧ cmV D 7 = (n 3 : Nat) ∧
    cwV D 0 = (maskW (s 0) (n 0) : Nat) ∧ cwV D 1 = (maskW (s 1) (n 1) : Nat) ∧ cwV D 2 = (maskW (s 2) (n 2) : Nat) ∧ (0 : Int) = (maskW (s 3) (n 3) : Nat) := by
  by_cases h1 : D = 16
  · subst h1
    refine ⟨fun k => #[10, 5, 0, 0].getD k 0, fun k => #[5, 5, 5, 0].getD k 0, fun k hk => ?_, by decide, by decide, by decide, by decide, by decide, by decide, by decide, by decide, by decide, by decide, by decide, by decide⟩
    obtain rfl | rfl | rfl | rfl : k = 0 ∨ k = 1 ∨ k = 2 ∨ k = 3 := by omega
    all_goals (unfold okP; decide)
  by_cases h2 : D = 32
  · subst h2
    refine ⟨fun k => #[16, 8, 0, 0].getD k 0, fun k => #[8, 8, 8, 0].getD k 0, fun k hk => ?_, by decide, by decide, by decide, by decide, by decide, by decide, by decide, by decide, by decide, by decide, by decide, by decide⟩
    obtain rfl | rfl | rfl | rfl : k = 0 ∨ k = 1 ∨ k = 2 ∨ k = 3 := by omega
    all_goals (unfold okP; decide)
  · have e : ∀ k, cmV D k = 0 := fun k => by unfold cmV; rw [if_neg h1, if_neg h2]
    have e2 : ∀ k, cwV D k = 0 := fun k => by unfold cwV; rw [if_neg h1, if_neg h2]
    refine ⟨fun _ => 0, fun _ => 0, fun k hk => .inl ⟨rfl, rfl⟩, e 0, e 1, e 2, e 3, e 4, e 5, e 6, e 7, ?_, ?_, ?_, rfl⟩
    · rw [e2]; rfl
    · rw [e2]; rfl
    · rw [e2]; rfl

/-- A head of twelve bytes, by its tests. -/
theorem shV_is (fr : Nat) (X Y P D : Int) (K : Nat) (hY : 0 ≤ Y) (F : FstB (ckD 12 X Y P D 0 0) K) :
    shV fr X Y P D = if K < 10 then badA (kdD K) ((fr : Int) + plD 12 K) else #[.int .i64 12, .int .i64 X, .int .i64 Y, .bool false, .int .i64 D, .int .i64 0, .int .i64 (clrC D 0), .int .i64 0, .int .i64 0, .int .i64 0, .int .i64 0, .int .i64 (fr : Nat), .int .i64 ((fr + 12 : Nat)), .int .i64 0, .int .i64 0] := by
  have hle := F.le
  have hfa : fa Y = Y := if_pos hY
  have a0 : 0 < K → ¬ X < 1 := fun h => of_decide_eq_false (F.no 0 h)
  have a1 : 1 < K → ¬ 16384 < X := fun h => of_decide_eq_false (F.no 1 h)
  have a2 : 2 < K → ¬ Y = 0 := fun h => beq_eq_false_iff_ne.1 (F.no 2 h)
  have a3 : 3 < K → ¬ 16384 < fa Y := fun h => of_decide_eq_false (F.no 3 h)
  have a4 : 4 < K → P = 1 := fun h => by
    have := F.no 4 h
    simpa [ckD] using this
  have a5 : 5 < K → dpH D 12 = true := fun h => by
    have := F.no 5 h
    simpa [ckD] using this
  have a5 : 5 < K → (D = 1 ∨ D = 4 ∨ D = 8 ∨ D = 24) := fun h => by
    have := of_decide_eq_true (a5 h)
    omega
  unfold shV
  obtain rfl | rfl | rfl | rfl | rfl | rfl | rfl | rfl | rfl | rfl | rfl : K = 0 ∨ K = 1 ∨ K = 2 ∨ K = 3 ∨ K = 4 ∨ K = 5 ∨ K = 6 ∨ K = 7 ∨ K = 8 ∨ K = 9 ∨ K = 10 := by omega
  · have y : X < 1 := of_decide_eq_true (F.yes (by decide))
    rw [if_pos (show X ≤ 0 by omega)]; rfl
  · have y : 16384 < X := of_decide_eq_true (F.yes (by decide))
    rw [if_neg (show ¬ X ≤ 0 by omega), if_pos y]; rfl
  · have y : Y = 0 := beq_iff_eq.1 (F.yes (by decide))
    have := a0 (by decide)
    have := a1 (by decide)
    rw [if_neg (show ¬ X ≤ 0 by omega), if_neg (show ¬ 16384 < X by omega), if_pos (show Y ≤ 0 by omega)]; rfl
  · have y : 16384 < fa Y := of_decide_eq_true (F.yes (by decide))
    have := a0 (by decide)
    have := a1 (by decide)
    have := a2 (by decide)
    rw [if_neg (show ¬ X ≤ 0 by omega), if_neg (show ¬ 16384 < X by omega), if_neg (show ¬ Y ≤ 0 by omega), if_pos (show 16384 < Y by omega)]; rfl
  · have y : (P != 1) = true := F.yes (by decide)
    have y := bne_iff_ne.1 y
    have := a0 (by decide)
    have := a1 (by decide)
    have := a2 (by decide)
    have := a3 (by decide)
    rw [if_neg (show ¬ X ≤ 0 by omega), if_neg (show ¬ 16384 < X by omega), if_neg (show ¬ Y ≤ 0 by omega), if_neg (show ¬ 16384 < Y by omega), if_pos y]; rfl
  · have y : (!(dpH D 12)) = true := F.yes (by decide)
    have y : dpH D 12 = false := by simpa using y
    have y := of_decide_eq_false y
    have := a0 (by decide)
    have := a1 (by decide)
    have := a2 (by decide)
    have := a3 (by decide)
    have := a4 (by decide)
    rw [if_neg (show ¬ X ≤ 0 by omega), if_neg (show ¬ 16384 < X by omega), if_neg (show ¬ Y ≤ 0 by omega), if_neg (show ¬ 16384 < Y by omega), if_neg (show ¬ P ≠ 1 by omega), if_pos (show ¬ (D = 1 ∨ D = 4 ∨ D = 8 ∨ D = 24) by omega)]; rfl
  · exact absurd (F.yes (by decide)) (by simp [ckD])
  · have y : (!(ftH 0 D)) = true := F.yes (by decide)
    have y : ftH 0 D = false := by simpa using y
    exact absurd (of_decide_eq_false y) (by omega)
  · exact absurd (F.yes (by decide)) (by simp [ckD, pkH])
  · have y : mstC D < 0 := of_decide_eq_true (F.yes (by decide))
    unfold mstC at y
    split at y
    · omega
    · split at y <;> omega
  · have := a0 (by decide)
    have := a1 (by decide)
    have := a2 (by decide)
    have := a3 (by decide)
    have := a4 (by decide)
    have := a5 (by decide)
    rw [if_neg (show ¬ X ≤ 0 by omega), if_neg (show ¬ 16384 < X by omega), if_neg (show ¬ Y ≤ 0 by omega), if_neg (show ¬ 16384 < Y by omega), if_neg (show ¬ P ≠ 1 by omega), if_neg (show ¬ ¬ (D = 1 ∨ D = 4 ∨ D = 8 ∨ D = 24) by omega)]; rfl

end Go.Proofs.YtikjfmpdfeaooaaDoor.Dh

/- Layer 20: masks that are told, by both sides (written by wip/gen/dhk.py). -/
namespace Go.Proofs.YtikjfmpdfeaooaaDoor.Dh
open Go.ChangeShapes Go.WideShapes Go.ChangeAt Go.RowKit
open Go.Proofs.YtikjfmpdfeaooaaDoor.Le Go.Proofs.YtikjfmpdfeaooaaDoor.Sr Go.Proofs.YtikjfmpdfeaooaaDoor.Ma
set_option linter.unusedVariables false

/-- Masks that are told are bad, or good, for both. -/
def MskBad (T z : ByteArray) (p n : Nat) (fm : Int) (x : St) (X Y P D C : Int) : Prop := ∃ (kk a0 : Int) (qq : Nat) (yy : St), 1 ≤ kk ∧ kk ≤ 3 ∧ (∀ (b l f : Nat) (W : World), Tab W → 0 ≠ b → 0 ≠ l → SL b l T (p + n) f T.size x W → Calls Tryd.prog 25 #[.agg #[.pointer (some ⟨b, 0, none⟩), .int .i64 fm, .int .i64 (p : Nat)], .string z, .agg #[.int .i64 (n : Nat), .int .i64 X, .int .i64 Y, .int .i64 P, .int .i64 D, .int .i64 3, .int .i64 C]] W fun e w' => e = .returned (.tuple #[.agg #[.int .i64 0, .int .i64 0, .int .i64 0, .int .i64 0, .int .i64 0, .int .i64 0, .int .i64 0, .int .i64 0], flV kk fm a0]) ∧ SL b l T qq f T.size yy w' ∧ Tn W w' [b, l]) ∧ (∀ W : World, Calls Tryd.prog 35 #[.string T, .agg #[.int .i64 (n : Nat), .int .i64 X, .int .i64 (fa Y), .bool (decide (Y < 0)), .int .i64 D, .int .i64 3, .int .i64 (clrC D C), .int .i64 0, .int .i64 0, .int .i64 0, .int .i64 0, .int .i64 (p : Nat), .int .i64 ((p + n : Nat)), .int .i64 0, .int .i64 0], .int .i64 (T.size : Nat)] W fun e w' => e = .returned (.agg (badA kk a0)) ∧ W.grownBy w' none)
def MskGood (T z : ByteArray) (p n : Nat) (fm : Int) (x : St) (X Y P D C : Int) : Prop := ∃ (s m : Nat → Nat) (qq : Nat) (yy : St), (∀ k, k < 4 → okP (s k) (m k)) ∧ p + 12 ≤ qq ∧ qq ≤ T.size ∧ (yy = x ∨ yy = (x.work 1).1) ∧ (∀ (b l f : Nat) (W : World), Tab W → 0 ≠ b → 0 ≠ l → SL b l T (p + n) f T.size x W → Calls Tryd.prog 25 #[.agg #[.pointer (some ⟨b, 0, none⟩), .int .i64 fm, .int .i64 (p : Nat)], .string z, .agg #[.int .i64 (n : Nat), .int .i64 X, .int .i64 Y, .int .i64 P, .int .i64 D, .int .i64 3, .int .i64 C]] W fun e w' => e = .returned (.tuple #[.agg #[.int .i64 (s 0 : Nat), .int .i64 (m 0 : Nat), .int .i64 (s 1 : Nat), .int .i64 (m 1 : Nat), .int .i64 (s 2 : Nat), .int .i64 (m 2 : Nat), .int .i64 (s 3 : Nat), .int .i64 (m 3 : Nat)], flV 0 0 0]) ∧ SL b l T qq f T.size yy w' ∧ Tn W w' [b, l]) ∧ (∀ W : World, Calls Tryd.prog 35 #[.string T, .agg #[.int .i64 (n : Nat), .int .i64 X, .int .i64 (fa Y), .bool (decide (Y < 0)), .int .i64 D, .int .i64 3, .int .i64 (clrC D C), .int .i64 0, .int .i64 0, .int .i64 0, .int .i64 0, .int .i64 (p : Nat), .int .i64 ((p + n : Nat)), .int .i64 0, .int .i64 0], .int .i64 (T.size : Nat)] W fun e w' => e = .returned (.agg #[.int .i64 (n : Nat), .int .i64 X, .int .i64 (fa Y), .bool (decide (Y < 0)), .int .i64 D, .int .i64 3, .int .i64 (clrC D C), .int .i64 (maskW (s 0) (m 0) : Nat), .int .i64 (maskW (s 1) (m 1) : Nat), .int .i64 (maskW (s 2) (m 2) : Nat), .int .i64 (maskW (s 3) (m 3) : Nat), .int .i64 (p : Nat), .int .i64 (qq : Nat), .int .i64 0, .int .i64 0]) ∧ W.grownBy w' none)

theorem msk_40 (T z : ByteArray) (p : Nat) (hle : p + 40 ≤ T.size) (hbig : T.size ≤ 4611686018427387904) (hz : T.extract p (p + 40) = z) (X Y P D C : Int) (fm : Int) (x : St) (GW1 : GW 1 x) : MskBad T z p 40 fm x X Y P D C ∨ MskGood T z p 40 fm x X Y P D C := by
  have hzs : z.size = 40 := by rw [← hz, ByteArray.size_extract]; omega
  by_cases hsh : T.size < p + 52
  · refine .inl ⟨1, T.size, p + 40, (x.work 1).1, by decide, by decide, fun b l f W hT h1 h2 h => ?_, fun W => ?_⟩
    · exact cmasks_40_short b l T z p (p + 40) f T.size fm X Y P D C x W h GW1.ok (GW1.no (by decide) (by omega)) 1 T.size (by rw [if_pos (GW1.step (by decide)).r]; rfl)
    · exact rmasks_40_short T X (fa Y) D (clrC D C) (decide (Y < 0)) p T.size ((p + 40 : Nat) : Int) W (by omega) (by omega)
  obtain ⟨zb, hzb⟩ : ∃ zb, T.extract (p + 40) (p + 40 + 12) = zb := ⟨_, rfl⟩
  have hcat : z ++ zb = T.extract p (p + 52) := by
    rw [← hz, ← hzb]
    apply ByteArray.ext
    apply Array.toList_inj.1
    have e1 : (T.extract p (p + 52)).data.toList = (T.data.toList.drop p).take 52 := by rw [Lib.extract_data, Nat.add_sub_cancel_left]
    have e2 : (T.extract p (p + 40)).data.toList = (T.data.toList.drop p).take 40 := by rw [Lib.extract_data, Nat.add_sub_cancel_left]
    have e3 : (T.extract (p + 40) (p + 40 + 12)).data.toList = ((T.data.toList.drop p).drop 40).take 12 := by rw [Lib.extract_data, List.drop_drop, Nat.add_sub_cancel_left]
    rw [ByteArray.data_append, Array.toList_append, e1, e2, e3, ← List.take_add]
  have rd : rdB x (p + 40) T.size 12 = true := GW1.rd (by decide) (by decide) (by omega)
  obtain ⟨m0, e0⟩ : ∃ m : Int, ((w4 T (p + 40) : Nat) : Int) = m := ⟨_, rfl⟩
  obtain ⟨m1, e1⟩ : ∃ m : Int, ((w4 T (p + 44) : Nat) : Int) = m := ⟨_, rfl⟩
  obtain ⟨m2, e2⟩ : ∃ m : Int, ((w4 T (p + 48) : Nat) : Int) = m := ⟨_, rfl⟩
  obtain ⟨m3, e3⟩ : ∃ m : Int, (0 : Int) = m := ⟨_, rfl⟩
  have f0 : ((w4 (z ++ zb) 40 : Nat) : Int) = m0 := by rw [← e0, hcat, w4_ext T p (p + 52) 40 (by omega) (by omega)]
  have f1 : ((w4 (z ++ zb) 44 : Nat) : Int) = m1 := by rw [← e1, hcat, w4_ext T p (p + 52) 44 (by omega) (by omega)]
  have f2 : ((w4 (z ++ zb) 48 : Nat) : Int) = m2 := by rw [← e2, hcat, w4_ext T p (p + 52) 48 (by omega) (by omega)]
  rcases four_both (fun k => if k = 0 then m0 else if k = 1 then m1 else if k = 2 then m2 else m3) D with ⟨tt, c, ht, hc, KF⟩ | ⟨s, m, ho, hM, KF⟩
  · refine .inl ⟨2, (p : Int) + 40 + 4 * (tt : Int), (p + 52), (x.work 1).1, by decide, by decide, fun b l f W hT h1 h2 h => ?_, fun W => ?_⟩
    · have R := cmasks_40_bad b l T z p (p + 40) f T.size fm X Y P D C x W h hT h1 h2 GW1.ok rd hzs zb hzb tt c ht hc (by omega) m0 m1 m2 m3 f0 f1 f2 e3 KF
      rw [show (p : Int) + (40 + 4 * (tt : Int)) = (p : Int) + 40 + 4 * (tt : Int) from by omega] at R
      rw [show p + 40 + 12 = p + 52 from rfl] at R
      exact R
    · exact rmasks_40_bad T X (fa Y) D (clrC D C) (decide (Y < 0)) p T.size ((p + 40 : Nat) : Int) W (by omega) (by omega) trivial (by omega) tt c ht hc m0 m1 m2 m3 e0 e1 e2 e3 KF
  · have g0 : m0 = (maskW (s 0) (m 0) : Nat) := hM 0 (by decide)
    have g1 : m1 = (maskW (s 1) (m 1) : Nat) := hM 1 (by decide)
    have g2 : m2 = (maskW (s 2) (m 2) : Nat) := hM 2 (by decide)
    have g3 : m3 = (maskW (s 3) (m 3) : Nat) := hM 3 (by decide)
    refine .inr ⟨s, m, (p + 52), (x.work 1).1, ho, by omega, by omega, .inr rfl, fun b l f W hT h1 h2 h => ?_, fun W => ?_⟩
    · have R := cmasks_40_good b l T z p (p + 40) f T.size fm X Y P D C x W h hT h1 h2 GW1.ok rd hzs zb hzb _ _ _ _ _ _ _ _ m0 m1 m2 m3 f0 f1 f2 e3 KF
      rw [show p + 40 + 12 = p + 52 from rfl] at R
      exact R
    · rw [← g0, ← g1, ← g2, ← g3]
      exact rmasks_40_good T X (fa Y) D (clrC D C) (decide (Y < 0)) p T.size ((p + 40 : Nat) : Int) W (by omega) (by omega) trivial (by omega) m0 m1 m2 m3 e0 e1 e2 e3 _ KF

theorem msk_52 (T z : ByteArray) (p : Nat) (hle : p + 52 ≤ T.size) (hbig : T.size ≤ 4611686018427387904) (hz : T.extract p (p + 52) = z) (X Y P D C : Int) (fm : Int) (x : St) : MskBad T z p 52 fm x X Y P D C ∨ MskGood T z p 52 fm x X Y P D C := by
  have hzs : z.size = 52 := by rw [← hz, ByteArray.size_extract]; omega
  obtain ⟨m0, e0⟩ : ∃ m : Int, ((w4 T (p + 40) : Nat) : Int) = m := ⟨_, rfl⟩
  obtain ⟨m1, e1⟩ : ∃ m : Int, ((w4 T (p + 44) : Nat) : Int) = m := ⟨_, rfl⟩
  obtain ⟨m2, e2⟩ : ∃ m : Int, ((w4 T (p + 48) : Nat) : Int) = m := ⟨_, rfl⟩
  obtain ⟨m3, e3⟩ : ∃ m : Int, (0 : Int) = m := ⟨_, rfl⟩
  have f0 : ((w4 z 40 : Nat) : Int) = m0 := by rw [← e0, ← hz, w4_ext T p (p + 52) 40 (by omega) (by omega)]
  have f1 : ((w4 z 44 : Nat) : Int) = m1 := by rw [← e1, ← hz, w4_ext T p (p + 52) 44 (by omega) (by omega)]
  have f2 : ((w4 z 48 : Nat) : Int) = m2 := by rw [← e2, ← hz, w4_ext T p (p + 52) 48 (by omega) (by omega)]
  rcases four_both (fun k => if k = 0 then m0 else if k = 1 then m1 else if k = 2 then m2 else m3) D with ⟨tt, c, ht, hc, KF⟩ | ⟨s, m, ho, hM, KF⟩
  · refine .inl ⟨2, (p : Int) + 40 + 4 * (tt : Int), (p + 52), x, by decide, by decide, fun b l f W hT h1 h2 h => ?_, fun W => ?_⟩
    · have R := cmasks_52_bad b l T z p (p + 52) f T.size fm X Y P D C x W h hT h1 h2 hzs tt c ht hc (by omega) m0 m1 m2 m3 f0 f1 f2 e3 KF
      rw [show (p : Int) + (40 + 4 * (tt : Int)) = (p : Int) + 40 + 4 * (tt : Int) from by omega] at R
      exact R
    · exact rmasks_52_bad T X (fa Y) D (clrC D C) (decide (Y < 0)) p T.size ((p + 52 : Nat) : Int) W (by omega) (by omega) (by omega) (by omega) tt c ht hc m0 m1 m2 m3 e0 e1 e2 e3 KF
  · have g0 : m0 = (maskW (s 0) (m 0) : Nat) := hM 0 (by decide)
    have g1 : m1 = (maskW (s 1) (m 1) : Nat) := hM 1 (by decide)
    have g2 : m2 = (maskW (s 2) (m 2) : Nat) := hM 2 (by decide)
    have g3 : m3 = (maskW (s 3) (m 3) : Nat) := hM 3 (by decide)
    refine .inr ⟨s, m, (p + 52), x, ho, by omega, by omega, .inl rfl, fun b l f W hT h1 h2 h => ?_, fun W => ?_⟩
    · have R := cmasks_52_good b l T z p (p + 52) f T.size fm X Y P D C x W h hT h1 h2 hzs _ _ _ _ _ _ _ _ m0 m1 m2 m3 f0 f1 f2 e3 KF
      exact R
    · rw [← g0, ← g1, ← g2, ← g3]
      exact rmasks_52_good T X (fa Y) D (clrC D C) (decide (Y < 0)) p T.size ((p + 52 : Nat) : Int) W (by omega) (by omega) (by omega) (by omega) m0 m1 m2 m3 e0 e1 e2 e3 _ KF

theorem msk_n (T z : ByteArray) (p : Nat) (n : Nat) (hn : 56 ≤ n) (hn2 : n ≤ 200) (hle : p + n ≤ T.size) (hbig : T.size ≤ 4611686018427387904) (hz : T.extract p (p + n) = z) (X Y P D C : Int) (fm : Int) (x : St) : MskBad T z p n fm x X Y P D C ∨ MskGood T z p n fm x X Y P D C := by
  have hzs : z.size = n := by rw [← hz, ByteArray.size_extract]; omega
  obtain ⟨m0, e0⟩ : ∃ m : Int, ((w4 T (p + 40) : Nat) : Int) = m := ⟨_, rfl⟩
  obtain ⟨m1, e1⟩ : ∃ m : Int, ((w4 T (p + 44) : Nat) : Int) = m := ⟨_, rfl⟩
  obtain ⟨m2, e2⟩ : ∃ m : Int, ((w4 T (p + 48) : Nat) : Int) = m := ⟨_, rfl⟩
  obtain ⟨m3, e3⟩ : ∃ m : Int, ((w4 T (p + 52) : Nat) : Int) = m := ⟨_, rfl⟩
  have f0 : ((w4 z 40 : Nat) : Int) = m0 := by rw [← e0, ← hz, w4_ext T p (p + n) 40 (by omega) (by omega)]
  have f1 : ((w4 z 44 : Nat) : Int) = m1 := by rw [← e1, ← hz, w4_ext T p (p + n) 44 (by omega) (by omega)]
  have f2 : ((w4 z 48 : Nat) : Int) = m2 := by rw [← e2, ← hz, w4_ext T p (p + n) 48 (by omega) (by omega)]
  have f3 : ((w4 z 52 : Nat) : Int) = m3 := by rw [← e3, ← hz, w4_ext T p (p + n) 52 (by omega) (by omega)]
  rcases four_both (fun k => if k = 0 then m0 else if k = 1 then m1 else if k = 2 then m2 else m3) D with ⟨tt, c, ht, hc, KF⟩ | ⟨s, m, ho, hM, KF⟩
  · refine .inl ⟨2, (p : Int) + 40 + 4 * (tt : Int), (p + n), x, by decide, by decide, fun b l f W hT h1 h2 h => ?_, fun W => ?_⟩
    · have R := cmasks_n_bad b l T z p (p + n) f T.size fm (n : Nat) (by omega) X Y P D C x W h hT h1 h2 (by omega) (by omega) tt c ht hc (by omega) m0 m1 m2 m3 f0 f1 f2 f3 KF
      rw [show (p : Int) + (40 + 4 * (tt : Int)) = (p : Int) + 40 + 4 * (tt : Int) from by omega] at R
      exact R
    · exact rmasks_n_bad T (n : Nat) (by omega) X (fa Y) D (clrC D C) (decide (Y < 0)) p T.size ((p + n : Nat) : Int) W (by omega) (by omega) (by omega) (by omega) tt c ht hc m0 m1 m2 m3 e0 e1 e2 e3 KF
  · have g0 : m0 = (maskW (s 0) (m 0) : Nat) := hM 0 (by decide)
    have g1 : m1 = (maskW (s 1) (m 1) : Nat) := hM 1 (by decide)
    have g2 : m2 = (maskW (s 2) (m 2) : Nat) := hM 2 (by decide)
    have g3 : m3 = (maskW (s 3) (m 3) : Nat) := hM 3 (by decide)
    refine .inr ⟨s, m, (p + n), x, ho, by omega, by omega, .inl rfl, fun b l f W hT h1 h2 h => ?_, fun W => ?_⟩
    · have R := cmasks_n_good b l T z p (p + n) f T.size fm (n : Nat) (by omega) X Y P D C x W h hT h1 h2 (by omega) (by omega) _ _ _ _ _ _ _ _ m0 m1 m2 m3 f0 f1 f2 f3 KF
      exact R
    · rw [← g0, ← g1, ← g2, ← g3]
      exact rmasks_n_good T (n : Nat) (by omega) X (fa Y) D (clrC D C) (decide (Y < 0)) p T.size ((p + n : Nat) : Int) W (by omega) (by omega) (by omega) (by omega) m0 m1 m2 m3 e0 e1 e2 e3 _ KF

theorem msk_any (T z : ByteArray) (p n : Nat) (hn : n = 40 ∨ n = 52 ∨ n = 56 ∨ n = 108 ∨ n = 124) (hle : p + n ≤ T.size) (hbig : T.size ≤ 4611686018427387904) (hz : T.extract p (p + n) = z) (X Y P D C : Int) (fm : Int) (x : St) (GW1 : GW 1 x) : MskBad T z p n fm x X Y P D C ∨ MskGood T z p n fm x X Y P D C := by
  rcases hn with rfl | rfl | h
  · exact msk_40 T z p hle hbig hz X Y P D C fm x GW1
  · exact msk_52 T z p hle hbig hz X Y P D C fm x
  · exact msk_n T z p n (by omega) (by omega) hle hbig hz X Y P D C fm x

end Go.Proofs.YtikjfmpdfeaooaaDoor.Dh

/- Layer 20: a head, by both sides (written by wip/gen/dhk.py). -/
namespace Go.Proofs.YtikjfmpdfeaooaaDoor.Dh
open Go.ChangeShapes Go.WideShapes Go.ChangeAt Go.RowKit
open Go.Proofs.YtikjfmpdfeaooaaDoor.Le Go.Proofs.YtikjfmpdfeaooaaDoor.Sr Go.Proofs.YtikjfmpdfeaooaaDoor.Ma
set_option linter.unusedVariables false

theorem rlong_any (n : Nat) (hn : n = 40 ∨ n = 52 ∨ n = 56 ∨ n = 108 ∨ n = 124) (s z : ByteArray) (fr to K : Nat) (X Y P D M C : Int) (RV MV : Array Value) (W : World) (DVh : DV fr n K X Y P D M C RV MV) (hz : s.extract fr (fr + n) = z) (hto : fr + n ≤ to) (hts : to ≤ s.size) (hsm : s.size ≤ 9223372036854775807) (hn4 : w4 s fr = n)
    (hX : sgn (w4 z 4) = X) (hY : sgn (w4 z 8) = Y) (hP : ((w2 z 12 : Nat) : Int) = P) (hD : ((w2 z 14 : Nat) : Int) = D) (hM : ((w4 z 16 : Nat) : Int) = M) (hC : ((w4 z 32 : Nat) : Int) = C) (KM0 : ∀ u, Calls Tryd.prog 35 #[.string s, .agg #[.int .i64 (n : Nat), .int .i64 X, .int .i64 (fa Y), .bool (decide (Y < 0)), .int .i64 D, .int .i64 M, .int .i64 (clrC D C), .int .i64 0, .int .i64 0, .int .i64 0, .int .i64 0, .int .i64 (fr : Nat), .int .i64 ((fr + n : Nat)), .int .i64 0, .int .i64 0], .int .i64 (to : Nat)] u fun e w' => e = .returned (.agg MV) ∧ u.grownBy w' none) (hMV : MVis MV) :
    Calls Tryd.prog 11 #[.string s, .int .i64 (fr : Nat), .int .i64 (to : Nat)] W fun e w' => e = .returned (.agg RV) ∧ W.grownBy w' none := by
  rcases hn with rfl | rfl | rfl | rfl | rfl
  · exact rlong_40 s z fr to K X Y P D M C RV MV W DVh hz hto hts hsm hn4 hX hY hP hD hM hC KM0 hMV
  · exact rlong_52 s z fr to K X Y P D M C RV MV W DVh hz hto hts hsm hn4 hX hY hP hD hM hC KM0 hMV
  · exact rlong_56 s z fr to K X Y P D M C RV MV W DVh hz hto hts hsm hn4 hX hY hP hD hM hC KM0 hMV
  · exact rlong_108 s z fr to K X Y P D M C RV MV W DVh hz hto hts hsm hn4 hX hY hP hD hM hC KM0 hMV
  · exact rlong_124 s z fr to K X Y P D M C RV MV W DVh hz hto hts hsm hn4 hX hY hP hD hM hC KM0 hMV

/-- A head whose numbers are wrong, by the code. -/
theorem code_wrong (T z : ByteArray) (p n K : Nat) (fm : Int) (x : St) (Gx : GW 3 x) (hbig : T.size ≤ 4611686018427387904) (hn4 : w4 T p = n) (hr : rdH (n : Int) = true) (hpn : p + n ≤ T.size) (hz : T.extract p (p + n) = z) (hK : K < 10) (F : FstB (ckD (n : Nat) (nW z) (nH z) (nP z) (nD z) (nM z) (nC z)) K) :
    CRd T p fm x (p + n) ((x.work 1).1.work 1).1 (.agg Z16) (flV (kdD K) fm ((p : Int) + plD n K)) := by
  intro b l f W h hT h1 h2
  have hzs : z.size = n := by rw [← hz, ByteArray.size_extract]; omega
  have hbn := rd_bd hr
  have hk := kd_bd hK
  have hp := pl_bd (S := (n : Int)) hK
  have hb := nH_bd z
  exact read_wrong b l T p f T.size fm x W h z (n : Nat) (nW z) (nH z) (nP z) (nD z) (nM z) (nC z) (kdD K) (plD n K) (by omega) (p + n) ((x.work 1).1.work 1).1 (by omega)
    (fun u hu => by rw [← hz]; exact head_yes b l T p f T.size fm x u hu Gx.ok (Gx.rd (by decide) (by decide) (by omega)) n hn4 (rd_ot hr) hr (Gx.step (by decide)).ok ((Gx.step (by decide)).rd (by decide) (by omega) (by omega)))
    (fun u => by have N := numbers_calls z (by omega) u; unfold nV at N; rw [hzs] at N; exact N)
    (fun u => wrong_calls _ _ _ _ _ _ _ K u (by omega) (by omega) F)

theorem long_both (T z : ByteArray) (p n K : Nat) (fm : Int) (x : St) (Gx : GW 3 x) (hbig : T.size ≤ 4611686018427387904) (hn4 : w4 T p = n) (hr : rdH (n : Int) = true) (h12 : n ≠ 12) (hpn : p + n ≤ T.size) (hz : T.extract p (p + n) = z) (F : FstB (ckD (n : Nat) (nW z) (nH z) (nP z) (nD z) (nM z) (nC z)) K) :
    BadR T p fm x ∨ GoodR T p fm x := by
  have hzs : z.size = n := by rw [← hz, ByteArray.size_extract]; omega
  have hn : n = 40 ∨ n = 52 ∨ n = 56 ∨ n = 108 ∨ n = 124 := by have := of_decide_eq_true hr; omega
  have G1 := Gx.step (by decide)
  have G2 := G1.step (by decide)
  have hb := nH_bd z
  have eX : sgn (w4 z 4) = nW z := by unfold nW; rw [if_neg (by omega)]
  have eY : sgn (w4 z 8) = nH z := by unfold nH; rw [if_neg (by omega)]
  have eP : ((w2 z 12 : Nat) : Int) = (nP z : Nat) := by unfold nP; rw [if_neg (by omega)]
  have eD : ((w2 z 14 : Nat) : Int) = (nD z : Nat) := by unfold nD; rw [if_neg (by omega)]
  have eM : ((w4 z 16 : Nat) : Int) = (nM z : Nat) := by unfold nM; rw [if_neg (by omega)]
  have eC : ((w4 z 32 : Nat) : Int) = (nC z : Nat) := by unfold nC; rw [if_neg (by omega)]
  have KH : ∀ (b l f : Nat) (u : World), SL b l T p f T.size x u → Calls Tryd.prog 21 #[.agg #[.pointer (some ⟨b, 0, none⟩), .int .i64 fm, .int .i64 (p : Nat)]] u fun e w' => e = .returned (.tuple #[.string z, flV 0 0 0]) ∧ SL b l T (p + n) f T.size ((x.work 1).1.work 1).1 w' ∧ Tn u w' [b, l] :=
    fun b l f u hu => by rw [← hz]; exact head_yes b l T p f T.size fm x u hu Gx.ok (Gx.rd (by decide) (by decide) (by omega)) n hn4 (rd_ot hr) hr G1.ok (G1.rd (by decide) (by omega) (by omega))
  have KN : ∀ u, Calls Tryd.prog 22 #[.string z] u fun e w' => e = .returned (.agg #[.int .i64 (n : Nat), .int .i64 (nW z), .int .i64 (nH z), .int .i64 (nP z), .int .i64 (nD z), .int .i64 (nM z), .int .i64 (nC z)]) ∧ u.grownBy w' none :=
    fun u => by have N := numbers_calls z (by omega) u; unfold nV at N; rw [hzs] at N; exact N
  have DOC : ∀ (RV MV : Array Value), (RV = if K < 10 then badA (kdD K) ((p : Int) + plD n K) else MV) → MVis MV → (∀ u, Calls Tryd.prog 35 #[.string T, .agg #[.int .i64 (n : Nat), .int .i64 (nW z), .int .i64 (fa (nH z)), .bool (decide (nH z < 0)), .int .i64 (nD z), .int .i64 (nM z), .int .i64 (clrC (nD z) (nC z)), .int .i64 0, .int .i64 0, .int .i64 0, .int .i64 0, .int .i64 (p : Nat), .int .i64 ((p + n : Nat)), .int .i64 0, .int .i64 0], .int .i64 (T.size : Nat)] u fun e w' => e = .returned (.agg MV) ∧ u.grownBy w' none) → DRd T p RV :=
    fun RV MV hR hMV KM W => rlong_any n hn T z p T.size K (nW z) (nH z) (nP z) (nD z) (nM z) (nC z) RV MV W ⟨F, h12, by omega, by omega, by omega, by omega, by omega, hR⟩ hz hpn (Nat.le_refl _) (by omega) hn4 eX eY eP eD eM eC KM hMV
  by_cases hK : K < 10
  · -- something is wrong with the numbers
    refine .inl ⟨kdD K, (p : Int) + plD n K, p + n, ((x.work 1).1.work 1).1, (kd_bd hK).1, (kd_bd hK).2, code_wrong T z p n K fm x Gx hbig hn4 hr hpn hz hK F, ?_⟩
    by_cases h3 : nM z = 3
    · rcases msk_any T z p n hn hpn hbig hz (nW z) (nH z) (nP z) (nD z) (nC z) fm _ G2 with ⟨kk, a0, qq, yy, _, _, _, KD⟩ | ⟨s, m, qq, yy, _, _, _, _, _, KD⟩
      · exact DOC _ _ (by rw [if_pos hK]) ⟨_, _, _, _, _, _, _, _, _, _, _, _, _, _, _, rfl⟩ (fun u => by rw [h3]; exact KD u)
      · exact DOC _ _ (by rw [if_pos hK]) ⟨_, _, _, _, _, _, _, _, _, _, _, _, _, _, _, rfl⟩ (fun u => by rw [h3]; exact KD u)
    · exact DOC _ _ (by rw [if_pos hK]) ⟨_, _, _, _, _, _, _, _, _, _, _, _, _, _, _, rfl⟩ (fun u => rmasks_none T _ _ _ _ _ _ _ p T.size _ u (by omega))
  have hK10 : K = 10 := by have := F.le; omega
  subst hK10
  obtain ⟨GHh, hpk⟩ := good_head hr (by omega) (by omega) F
  have KW : ∀ u, Calls Tryd.prog 23 #[.agg #[.int .i64 (n : Nat), .int .i64 (nW z), .int .i64 (nH z), .int .i64 (nP z), .int .i64 (nD z), .int .i64 (nM z), .int .i64 (nC z)]] u fun e w' => e = .returned (.tuple #[.int .i64 0, .int .i64 0]) ∧ u.grownBy w' none :=
    fun u => wrong_calls _ _ _ _ _ _ _ 10 u (by omega) (by omega) F
  by_cases h3 : nM z = 3
  · rcases msk_any T z p n hn hpn hbig hz (nW z) (nH z) (nP z) (nD z) (nC z) fm _ G2 with ⟨kk, a0, qq, yy, k1, k3, KC, KD⟩ | ⟨s, m, qq, yy, ho, q1, q2, hy, KC, KD⟩
    · refine .inl ⟨kk, a0, qq, yy, k1, k3, fun b l f W h hT h1 h2 => ?_, DOC (badA kk a0) (badA kk a0) (by rw [if_neg hK]) ⟨_, _, _, _, _, _, _, _, _, _, _, _, _, _, _, rfl⟩ (fun u => by rw [h3]; exact KD u)⟩
      exact read_nomasks b l T p f T.size fm x W h z (n : Nat) (nW z) (nH z) (nP z) (nD z) (nM z) (nC z) kk a0 (by omega) (p + n) qq ((x.work 1).1.work 1).1 yy (fun u hu => KH b l f u hu) KN KW
        (fun u hu ht => by rw [h3]; exact KC b l f u (Tab.tn hT ht (by simp [h1, h2])) h1 h2 hu)
    · refine .inr ⟨(n : Nat), nW z, fa (nH z), nD z, nM z, clrC (nD z) (nC z), decide (nH z < 0), s, m, qq, yy, GHh, hpk, ho, q1, q2, hy, fun b l f W h hT h1 h2 => ?_, DOC _ _ (by rw [if_neg hK]) ⟨_, _, _, _, _, _, _, _, _, _, _, _, _, _, _, rfl⟩ (fun u => by rw [h3]; exact KD u)⟩
      exact read_good b l T p f T.size fm x W h z (n : Nat) (nW z) (nH z) (nP z) (nD z) (nM z) (nC z) _ _ _ _ _ _ _ _ (by omega) (p + n) qq ((x.work 1).1.work 1).1 yy (fun u hu => KH b l f u hu) KN KW
        (fun u hu ht => by rw [h3]; exact KC b l f u (Tab.tn hT ht (by simp [h1, h2])) h1 h2 hu)
  · obtain ⟨s, m, ho, c0, c1, c2, c3, c4, c5, c6, c7, w0, w1, w2, w3⟩ := common_places (nD z)
    refine .inr ⟨(n : Nat), nW z, fa (nH z), nD z, nM z, clrC (nD z) (nC z), decide (nH z < 0), s, m, p + n, ((x.work 1).1.work 1).1, GHh, hpk, ho, by omega, by omega, .inl rfl, fun b l f W h hT h1 h2 => ?_, ?_⟩
    · have R := read_plain b l T p f T.size fm x W h Gx.ok (Gx.rd (by decide) (by decide) (by omega)) n hn4 hr G1.ok (G1.rd (by decide) (by omega) (by omega)) z hz h3 (by rw [hzs]; exact F)
      unfold headV at R
      rw [hzs, c0, c1, c2, c3, c4, c5, c6, c7] at R
      exact R
    · refine DOC _ _ (by rw [if_neg hK]) ⟨_, _, _, _, _, _, _, _, _, _, _, _, _, _, _, rfl⟩ (fun u => ?_)
      rw [← w0, ← w1, ← w2, ← w3]
      exact rmasks_none T _ _ _ _ _ _ _ p T.size _ u (by omega)

theorem short_both (T z : ByteArray) (p K : Nat) (fm : Int) (x : St) (Gx : GW 3 x) (hbig : T.size ≤ 4611686018427387904) (hn4 : w4 T p = 12) (hpn : p + 12 ≤ T.size) (hz : T.extract p (p + 12) = z) (F : FstB (ckD (12 : Nat) (nW z) (nH z) (nP z) (nD z) (nM z) (nC z)) K) :
    BadR T p fm x ∨ GoodR T p fm x := by
  have hzs : z.size = 12 := by rw [← hz, ByteArray.size_extract]; omega
  have G1 := Gx.step (by decide)
  have hr : rdH ((12 : Nat) : Int) = true := by decide
  have eX : ((w2 z 4 : Nat) : Int) = nW z := by unfold nW; rw [if_pos hzs]
  have eY : ((w2 z 6 : Nat) : Int) = nH z := by unfold nH; rw [if_pos hzs]
  have eP : ((w2 z 8 : Nat) : Int) = (nP z : Nat) := by unfold nP; rw [if_pos hzs]
  have eD : ((w2 z 10 : Nat) : Int) = (nD z : Nat) := by unfold nD; rw [if_pos hzs]
  have eM : nM z = 0 := by unfold nM; rw [if_pos hzs]
  have eC : nC z = 0 := by unfold nC; rw [if_pos hzs]
  have hY : 0 ≤ nH z := by rw [← eY]; omega
  have F0 := F
  rw [eM, eC] at F0
  have SH := shV_is p (nW z) (nH z) (nP z) (nD z) K hY F0
  have DOC : DRd T p (shV p (nW z) (nH z) (nP z) (nD z)) := fun W => rread_twelve T p T.size W (Nat.le_refl _) (by omega) (by omega) hpn hn4 z hz (nW z) (nH z) (nP z) (nD z) (by omega) eX eY eP eD
  rw [SH] at DOC
  by_cases hK : K < 10
  · rw [if_pos hK] at DOC
    exact .inl ⟨kdD K, (p : Int) + plD 12 K, p + 12, ((x.work 1).1.work 1).1, (kd_bd hK).1, (kd_bd hK).2, code_wrong T z p 12 K fm x Gx hbig hn4 hr hpn hz hK F, DOC⟩
  have hK10 : K = 10 := by have := F.le; omega
  subst hK10
  rw [if_neg hK] at DOC
  obtain ⟨GHh, hpk⟩ := good_head hr (by omega) (by omega) F
  have hfa : fa (nH z) = nH z := if_pos hY
  have hneg : decide (nH z < 0) = false := decide_eq_false (by omega)
  have hD : (nD z : Int) ≠ 16 ∧ (nD z : Int) ≠ 32 := by
    have h5 : dpH (nD z) ((12 : Nat) : Int) = true := by
      have := F.no 5 (by omega)
      simpa [ckD] using this
    have h5 := of_decide_eq_true h5
    omega
  have e : ∀ k, cmV (nD z) k = 0 := fun k => by unfold cmV; rw [if_neg hD.1, if_neg hD.2]
  refine .inr ⟨((12 : Nat) : Int), nW z, fa (nH z), nD z, nM z, clrC (nD z) (nC z), decide (nH z < 0), fun _ => 0, fun _ => 0, p + 12, ((x.work 1).1.work 1).1, GHh, hpk, fun _ _ => .inl ⟨rfl, rfl⟩, by omega, by omega, .inl rfl, fun b l f W h hT h1 h2 => ?_, ?_⟩
  · have R := read_plain b l T p f T.size fm x W h Gx.ok (Gx.rd (by decide) (by decide) (by omega)) 12 hn4 hr G1.ok (G1.rd (by decide) (by decide) (by omega)) z hz (by omega) (by rw [hzs]; exact F)
    unfold headV at R
    rw [hzs] at R
    simp only [e] at R
    exact R
  · rw [hfa, hneg, eM, eC]
    exact DOC

/-- Any bytes from a place on are a head, or none, by the code as by the document. -/
theorem read_both (T : ByteArray) (p : Nat) (fm : Int) (x : St) (Gx : GW 3 x) (hp : p ≤ T.size) (hbig : T.size ≤ 4611686018427387904) : BadR T p fm x ∨ GoodR T p fm x := by
  have hsm : T.size ≤ 9223372036854775807 := by omega
  have G1 := Gx.step (by decide)
  have G2 := G1.step (by decide)
  by_cases h4 : T.size < p + 4
  · refine .inl ⟨1, T.size, p, (x.work 1).1, by decide, by decide, fun b l f W h hT h1 h2 => ?_, fun W => rread_less4 T p T.size W (Nat.le_refl _) hsm hp h4⟩
    exact read_nohead b l T p f T.size fm x W h 1 T.size (by decide) p _ (fun u hu => head_no1 b l T p f T.size fm x u hu Gx.ok (Gx.no (by decide) (by omega)) 1 T.size (by rw [if_pos G1.r]; rfl))
  obtain ⟨n, hn4⟩ : ∃ n, w4 T p = n := ⟨_, rfl⟩
  have rd4 : rdB x p T.size 4 = true := Gx.rd (by decide) (by decide) (by omega)
  cases ho : otH (n : Int) with
  | true =>
    refine .inl ⟨3, p, p + 4, (x.work 1).1, by decide, by decide, fun b l f W h hT h1 h2 => ?_, ?_⟩
    · exact read_nohead b l T p f T.size fm x W h 3 p (by decide) (p + 4) _ (fun u hu => head_other b l T p f T.size fm x u hu Gx.ok rd4 n hn4 ho)
    · have := of_decide_eq_true ho
      rcases (by omega : n = 16 ∨ n = 64) with rfl | rfl
      · exact fun W => rread_is16 T p T.size W (Nat.le_refl _) hsm hp (by omega) hn4
      · exact fun W => rread_is64 T p T.size W (Nat.le_refl _) hsm hp (by omega) hn4
  | false =>
    cases hr : rdH (n : Int) with
    | false =>
      refine .inl ⟨2, p, p + 4, (x.work 1).1, by decide, by decide, fun b l f W h hT h1 h2 => ?_, ?_⟩
      · exact read_nohead b l T p f T.size fm x W h 2 p (by decide) (p + 4) _ (fun u hu => head_bad b l T p f T.size fm x u hu Gx.ok rd4 n hn4 ho hr)
      · have a := of_decide_eq_false ho
        have c := of_decide_eq_false hr
        exact fun W => rread_unknown T p T.size W (Nat.le_refl _) hsm hp (by omega) n hn4 (by omega) (by omega) (by omega) (by omega) (by omega) (by omega) (by omega) (by omega)
    | true =>
      have hc := of_decide_eq_true hr
      have hc : n = 12 ∨ n = 40 ∨ n = 52 ∨ n = 56 ∨ n = 108 ∨ n = 124 := by omega
      by_cases hov : T.size < p + n
      · refine .inl ⟨1, T.size, p + 4, ((x.work 1).1.work 1).1, by decide, by decide, fun b l f W h hT h1 h2 => ?_, ?_⟩
        · exact read_nohead b l T p f T.size fm x W h 1 T.size (by decide) (p + 4) _ (fun u hu => head_no2 b l T p f T.size fm x u hu Gx.ok rd4 n hn4 ho hr G1.ok (G1.no (by decide) (by omega)) 1 T.size (by rw [if_pos G2.r]; rfl))
        · rcases hc with rfl | rfl | rfl | rfl | rfl | rfl
          · exact fun W => rread_over12 T p T.size W (Nat.le_refl _) hsm hp (by omega) hn4 hov
          · exact fun W => rread_over40 T p T.size W (Nat.le_refl _) hsm hp (by omega) hn4 hov
          · exact fun W => rread_over52 T p T.size W (Nat.le_refl _) hsm hp (by omega) hn4 hov
          · exact fun W => rread_over56 T p T.size W (Nat.le_refl _) hsm hp (by omega) hn4 hov
          · exact fun W => rread_over108 T p T.size W (Nat.le_refl _) hsm hp (by omega) hn4 hov
          · exact fun W => rread_over124 T p T.size W (Nat.le_refl _) hsm hp (by omega) hn4 hov
      obtain ⟨z, hz⟩ : ∃ z, T.extract p (p + n) = z := ⟨_, rfl⟩
      obtain ⟨K, F⟩ := fst_ex (ckD (n : Nat) (nW z) (nH z) (nP z) (nD z) (nM z) (nC z))
      by_cases h12 : n = 12
      · subst h12
        exact short_both T z p K fm x Gx hbig hn4 (by omega) hz F
      · exact long_both T z p n K fm x Gx hbig hn4 hr h12 (by omega) hz F

end Go.Proofs.YtikjfmpdfeaooaaDoor.Dh

/- Layer 20: the law's same; the document's Stride; Entry (written by wip/gen/dhs.py). -/
namespace Go.Proofs.YtikjfmpdfeaooaaDoor.Dh
open Go.ChangeShapes Go.WideShapes Go.ChangeAt Go.RowKit
open Go.Proofs.YtikjfmpdfeaooaaDoor.Le Go.Proofs.YtikjfmpdfeaooaaDoor.Sr Go.Proofs.YtikjfmpdfeaooaaDoor.Ma
set_option linter.unusedVariables false

theorem word_mask (s n : Nat) (h : okP s n) (W : World) : Calls Tryd.prog 36 #[.agg #[.int .i64 s, .int .i64 n]] W fun e w' => e = .returned (.int .i64 (maskW s n : Nat)) ∧ W.grownBy w' none := by
  have e : wordV s n = maskW s n := by
    unfold wordV maskW
    rcases h with ⟨rfl, rfl⟩ | ⟨h1, h2⟩
    · rfl
    · rw [if_pos ⟨h1, h2⟩, if_neg (by omega)]
  rw [← e]
  exact word_calls s n W (by rcases h with ⟨rfl, rfl⟩ | ⟨h1, h2⟩ <;> omega)

set_option maxRecDepth 100000 in
set_option maxHeartbeats 8000000 in
theorem same_vals (S X Y D M C p q : Int) (tp : Bool) (s0 n0 s1 n1 s2 n2 s3 n3 m0 m1 m2 m3 : Int) (W : World)
    (K0 : ∀ u, Calls Tryd.prog 36 #[.agg #[.int .i64 s0, .int .i64 n0]] u fun e w' => e = .returned (.int .i64 m0) ∧ u.grownBy w' none)
    (K1 : ∀ u, Calls Tryd.prog 36 #[.agg #[.int .i64 s1, .int .i64 n1]] u fun e w' => e = .returned (.int .i64 m1) ∧ u.grownBy w' none)
    (K2 : ∀ u, Calls Tryd.prog 36 #[.agg #[.int .i64 s2, .int .i64 n2]] u fun e w' => e = .returned (.int .i64 m2) ∧ u.grownBy w' none)
    (K3 : ∀ u, Calls Tryd.prog 36 #[.agg #[.int .i64 s3, .int .i64 n3]] u fun e w' => e = .returned (.int .i64 m3) ∧ u.grownBy w' none) :
    Calls Tryd.prog 12 #[.agg #[.int .i64 S, .int .i64 X, .int .i64 Y, .bool tp, .int .i64 D, .int .i64 M, .int .i64 C, .int .i64 s0, .int .i64 n0, .int .i64 s1, .int .i64 n1, .int .i64 s2, .int .i64 n2, .int .i64 s3, .int .i64 n3, .int .i64 p], .agg #[.int .i64 S, .int .i64 X, .int .i64 Y, .bool tp, .int .i64 D, .int .i64 M, .int .i64 C, .int .i64 m0, .int .i64 m1, .int .i64 m2, .int .i64 m3, .int .i64 p, .int .i64 q, .int .i64 0, .int .i64 0]] W fun e w' => e = .returned (.bool true) ∧ W.grownBy w' none := by
  have K0 := Lib.hid K0
  have K1 := Lib.hid K1
  have K2 := Lib.hid K2
  have K3 := Lib.hid K3
  go_enter Tryd.func12, Tryd.ntmps12
  go_upto_region 1 with fail
  have B0 : ((W.alloc (.cells #[.int .i64 S, .int .i64 X, .int .i64 Y, .bool tp, .int .i64 D, .int .i64 M, .int .i64 C, .int .i64 s0, .int .i64 n0, .int .i64 s1, .int .i64 n1, .int .i64 s2, .int .i64 n2, .int .i64 s3, .int .i64 n3, .int .i64 p] 31)).alloc (.cells #[.int .i64 S, .int .i64 X, .int .i64 Y, .bool tp, .int .i64 D, .int .i64 M, .int .i64 C, .int .i64 m0, .int .i64 m1, .int .i64 m2, .int .i64 m3, .int .i64 p, .int .i64 q, .int .i64 0, .int .i64 0] 37)).heap[W.heap.size]? = some (.cells #[.int .i64 S, .int .i64 X, .int .i64 Y, .bool tp, .int .i64 D, .int .i64 M, .int .i64 C, .int .i64 s0, .int .i64 n0, .int .i64 s1, .int .i64 n1, .int .i64 s2, .int .i64 n2, .int .i64 s3, .int .i64 n3, .int .i64 p] 31 (0, 0)) := blk_al blk_at _
  have D0 : ((W.alloc (.cells #[.int .i64 S, .int .i64 X, .int .i64 Y, .bool tp, .int .i64 D, .int .i64 M, .int .i64 C, .int .i64 s0, .int .i64 n0, .int .i64 s1, .int .i64 n1, .int .i64 s2, .int .i64 n2, .int .i64 s3, .int .i64 n3, .int .i64 p] 31)).alloc (.cells #[.int .i64 S, .int .i64 X, .int .i64 Y, .bool tp, .int .i64 D, .int .i64 M, .int .i64 C, .int .i64 m0, .int .i64 m1, .int .i64 m2, .int .i64 m3, .int .i64 p, .int .i64 q, .int .i64 0, .int .i64 0] 37)).heap[W.heap.size + 1]? = some (.cells #[.int .i64 S, .int .i64 X, .int .i64 Y, .bool tp, .int .i64 D, .int .i64 M, .int .i64 C, .int .i64 m0, .int .i64 m1, .int .i64 m2, .int .i64 m3, .int .i64 p, .int .i64 q, .int .i64 0, .int .i64 0] 37 (0, 0)) := by rw [← size_alloc W (.cells #[.int .i64 S, .int .i64 X, .int .i64 Y, .bool tp, .int .i64 D, .int .i64 M, .int .i64 C, .int .i64 s0, .int .i64 n0, .int .i64 s1, .int .i64 n1, .int .i64 s2, .int .i64 n2, .int .i64 s3, .int .i64 n3, .int .i64 p] 31)]; exact blk_at
  have G0 : W.grownBy ((W.alloc (.cells #[.int .i64 S, .int .i64 X, .int .i64 Y, .bool tp, .int .i64 D, .int .i64 M, .int .i64 C, .int .i64 s0, .int .i64 n0, .int .i64 s1, .int .i64 n1, .int .i64 s2, .int .i64 n2, .int .i64 s3, .int .i64 n3, .int .i64 p] 31)).alloc (.cells #[.int .i64 S, .int .i64 X, .int .i64 Y, .bool tp, .int .i64 D, .int .i64 M, .int .i64 C, .int .i64 m0, .int .i64 m1, .int .i64 m2, .int .i64 m3, .int .i64 p, .int .i64 q, .int .i64 0, .int .i64 0] 37)) none := gb_trans (World.grownBy_alloc _ _ none) (World.grownBy_alloc _ _ none)
  generalize (W.alloc (.cells #[.int .i64 S, .int .i64 X, .int .i64 Y, .bool tp, .int .i64 D, .int .i64 M, .int .i64 C, .int .i64 s0, .int .i64 n0, .int .i64 s1, .int .i64 n1, .int .i64 s2, .int .i64 n2, .int .i64 s3, .int .i64 n3, .int .i64 p] 31)).alloc (.cells #[.int .i64 S, .int .i64 X, .int .i64 Y, .bool tp, .int .i64 D, .int .i64 M, .int .i64 C, .int .i64 m0, .int .i64 m1, .int .i64 m2, .int .i64 m3, .int .i64 p, .int .i64 q, .int .i64 0, .int .i64 0] 37) = w0 at B0 D0 G0 ⊢
  have a0 := blk_cell B0 0
  have a1 := blk_cell B0 1
  have a2 := blk_cell B0 2
  have a3 := blk_cell B0 3
  have a4 := blk_cell B0 4
  have a5 := blk_cell B0 5
  have a6 := blk_cell B0 6
  have a7 := blk_cell B0 7
  have a8 := blk_cell B0 8
  have a9 := blk_cell B0 9
  have a10 := blk_cell B0 10
  have a11 := blk_cell B0 11
  have a12 := blk_cell B0 12
  have a13 := blk_cell B0 13
  have a14 := blk_cell B0 14
  have a15 := blk_cell B0 15
  simp only [List.getElem?_toArray, List.getElem?_cons_succ, List.getElem?_cons_zero] at a0 a1 a2 a3 a4 a5 a6 a7 a8 a9 a10 a11 a12 a13 a14 a15
  have HB0 := Lib.hid B0
  have HD0 := Lib.hid D0
  have HG0 := Lib.hid G0
  clear B0 D0 G0 a0 a1 a2 a3 a4 a5 a6 a15
  go_region_held3 (fun u => u.cell? ⟨W.heap.size, 7, none⟩ = some (.int .i64 s0) ∧ u.cell? ⟨W.heap.size, 8, none⟩ = some (.int .i64 n0) ∧ u.cell? ⟨W.heap.size, 9, none⟩ = some (.int .i64 s1) ∧ u.cell? ⟨W.heap.size, 10, none⟩ = some (.int .i64 n1) ∧ u.cell? ⟨W.heap.size, 11, none⟩ = some (.int .i64 s2) ∧ u.cell? ⟨W.heap.size, 12, none⟩ = some (.int .i64 n2) ∧ u.cell? ⟨W.heap.size, 13, none⟩ = some (.int .i64 s3) ∧ u.cell? ⟨W.heap.size, 14, none⟩ = some (.int .i64 n3)) (go_keep)
    (first
      | (go_at_call 36; with_reducible refine (K0.out _).mono ?_; rintro e u1 ⟨rfl, gx⟩; have G1 := Lib.hid (show w0.grownBy u1 none from gb_trans (gb_drew w0 none) gx); have BB := old0 G1.out HB0.out (blk_lt HB0.out) (by simp); have y7 := blk_cell BB 7; have y8 := blk_cell BB 8; have y9 := blk_cell BB 9; have y10 := blk_cell BB 10; have y11 := blk_cell BB 11; have y12 := blk_cell BB 12; have y13 := blk_cell BB 13; have y14 := blk_cell BB 14; simp only [List.getElem?_toArray, List.getElem?_cons_succ, List.getElem?_cons_zero] at y7 y8 y9 y10 y11 y12 y13 y14; clear BB gx)
      | (go_at_call 36; with_reducible refine (K1.out _).mono ?_; rintro e u2 ⟨rfl, gx⟩; have G2 := Lib.hid (show w0.grownBy u2 none from gb_trans G1.out gx); have BB := old0 G2.out HB0.out (blk_lt HB0.out) (by simp); have y7 := blk_cell BB 7; have y8 := blk_cell BB 8; have y9 := blk_cell BB 9; have y10 := blk_cell BB 10; have y11 := blk_cell BB 11; have y12 := blk_cell BB 12; have y13 := blk_cell BB 13; have y14 := blk_cell BB 14; simp only [List.getElem?_toArray, List.getElem?_cons_succ, List.getElem?_cons_zero] at y7 y8 y9 y10 y11 y12 y13 y14; clear BB gx)
      | (go_at_call 36; with_reducible refine (K2.out _).mono ?_; rintro e u3 ⟨rfl, gx⟩; have G3 := Lib.hid (show w0.grownBy u3 none from gb_trans G2.out gx); have BB := old0 G3.out HB0.out (blk_lt HB0.out) (by simp); have y7 := blk_cell BB 7; have y8 := blk_cell BB 8; have y9 := blk_cell BB 9; have y10 := blk_cell BB 10; have y11 := blk_cell BB 11; have y12 := blk_cell BB 12; have y13 := blk_cell BB 13; have y14 := blk_cell BB 14; simp only [List.getElem?_toArray, List.getElem?_cons_succ, List.getElem?_cons_zero] at y7 y8 y9 y10 y11 y12 y13 y14; clear BB gx)
      | (go_at_call 36; with_reducible refine (K3.out _).mono ?_; rintro e u4 ⟨rfl, gx⟩; have G4 := Lib.hid (show w0.grownBy u4 none from gb_trans G3.out gx); have BB := old0 G4.out HB0.out (blk_lt HB0.out) (by simp); have y7 := blk_cell BB 7; have y8 := blk_cell BB 8; have y9 := blk_cell BB 9; have y10 := blk_cell BB 10; have y11 := blk_cell BB 11; have y12 := blk_cell BB 12; have y13 := blk_cell BB 13; have y14 := blk_cell BB 14; simp only [List.getElem?_toArray, List.getElem?_cons_succ, List.getElem?_cons_zero] at y7 y8 y9 y10 y11 y12 y13 y14; clear BB gx))
  all_goals
    have BB := old0 G4.out HB0.out (blk_lt HB0.out) (by simp)
    have DD := old0 G4.out HD0.out (blk_lt HD0.out) (by simp)
    have GG := Lib.hid (gb_trans HG0.out G4.out)
    clear G1 G2 G3 G4 HB0 HD0 HG0 a7 a8 a9 a10 a11 a12 a13 a14
    have z0 := blk_cell BB 0
    have z1 := blk_cell BB 1
    have z2 := blk_cell BB 2
    have z3 := blk_cell BB 3
    have z4 := blk_cell BB 4
    have z5 := blk_cell BB 5
    have z6 := blk_cell BB 6
    have z7 := blk_cell BB 7
    have z8 := blk_cell BB 8
    have z9 := blk_cell BB 9
    have z10 := blk_cell BB 10
    have z11 := blk_cell BB 11
    have z12 := blk_cell BB 12
    have z13 := blk_cell BB 13
    have z14 := blk_cell BB 14
    have z15 := blk_cell BB 15
    simp only [List.getElem?_toArray, List.getElem?_cons_succ, List.getElem?_cons_zero] at z0 z1 z2 z3 z4 z5 z6 z7 z8 z9 z10 z11 z12 z13 z14 z15
    have d0 := blk_cell DD 0
    have d1 := blk_cell DD 1
    have d2 := blk_cell DD 2
    have d3 := blk_cell DD 3
    have d4 := blk_cell DD 4
    have d5 := blk_cell DD 5
    have d6 := blk_cell DD 6
    have d7 := blk_cell DD 7
    have d8 := blk_cell DD 8
    have d9 := blk_cell DD 9
    have d10 := blk_cell DD 10
    have d11 := blk_cell DD 11
    have d12 := blk_cell DD 12
    have d13 := blk_cell DD 13
    have d14 := blk_cell DD 14
    simp only [List.getElem?_toArray, List.getElem?_cons_succ, List.getElem?_cons_zero] at d0 d1 d2 d3 d4 d5 d6 d7 d8 d9 d10 d11 d12 d13 d14
    clear BB DD
    go_wp2
    go_ret
    exact ⟨rfl, GG.out⟩

theorem same_calls (S X Y D M C p q : Int) (tp : Bool) (s n : Nat → Nat) (ho : ∀ k, k < 4 → okP (s k) (n k)) (W : World) :
    Calls Tryd.prog 12 #[.agg #[.int .i64 S, .int .i64 X, .int .i64 Y, .bool tp, .int .i64 D, .int .i64 M, .int .i64 C, .int .i64 (s 0 : Nat), .int .i64 (n 0 : Nat), .int .i64 (s 1 : Nat), .int .i64 (n 1 : Nat), .int .i64 (s 2 : Nat), .int .i64 (n 2 : Nat), .int .i64 (s 3 : Nat), .int .i64 (n 3 : Nat), .int .i64 p], .agg #[.int .i64 S, .int .i64 X, .int .i64 Y, .bool tp, .int .i64 D, .int .i64 M, .int .i64 C, .int .i64 (maskW (s 0) (n 0) : Nat), .int .i64 (maskW (s 1) (n 1) : Nat), .int .i64 (maskW (s 2) (n 2) : Nat), .int .i64 (maskW (s 3) (n 3) : Nat), .int .i64 p, .int .i64 q, .int .i64 0, .int .i64 0]] W fun e w' => e = .returned (.bool true) ∧ W.grownBy w' none :=
  same_vals S X Y D M C p q tp _ _ _ _ _ _ _ _ _ _ _ _ W (fun u => word_mask _ _ (ho 0 (by decide)) u) (fun u => word_mask _ _ (ho 1 (by decide)) u) (fun u => word_mask _ _ (ho 2 (by decide)) u) (fun u => word_mask _ _ (ho 3 (by decide)) u)

theorem entry_calls (S X Y D M C p : Int) (tp : Bool) (s0 n0 s1 n1 s2 n2 s3 n3 : Int) (W : World) :
    Calls Tryd.prog 16 #[.agg #[.int .i64 S, .int .i64 X, .int .i64 Y, .bool tp, .int .i64 D, .int .i64 M, .int .i64 C, .int .i64 s0, .int .i64 n0, .int .i64 s1, .int .i64 n1, .int .i64 s2, .int .i64 n2, .int .i64 s3, .int .i64 n3, .int .i64 p]] W fun e w' => e = .returned (.int .i64 (if S = 12 then 3 else 4)) ∧ W.grownBy w' none := by
  by_cases h : S = 12
  · subst h
    rw [if_pos rfl]
    go_enter Tryd.func16, Tryd.ntmps16
    go_wp2
    go_ret
    exact ⟨rfl, World.grownBy_alloc _ _ _⟩
  · rw [if_neg h]
    have h1 : (S == 12) = false := by rw [beq_eq_false_iff_ne]; exact h
    clear h
    go_enter Tryd.func16, Tryd.ntmps16
    go_wp2
    go_ret
    exact ⟨rfl, World.grownBy_alloc _ _ _⟩

/-- The least number from n on whose bits are whole words of 32: the document counts up. -/
def upN (n : Nat) : Nat := (n + 31) / 32 * 32
theorem rstride_calls (S X Y D M C p q m0 m1 m2 m3 z0 z1 : Int) (tp : Bool) (W : World) (N : Nat) (hN : X * D = N) (hb : N ≤ 1000000) :
    Calls Tryd.prog 15 #[.agg #[.int .i64 S, .int .i64 X, .int .i64 Y, .bool tp, .int .i64 D, .int .i64 M, .int .i64 C, .int .i64 m0, .int .i64 m1, .int .i64 m2, .int .i64 m3, .int .i64 p, .int .i64 q, .int .i64 z0, .int .i64 z1]] W fun e w' => e = .returned (.int .i64 ((upN N / 8 : Nat) : Int)) ∧ W.grownBy w' none := by
  have hw : IntKind.i64.wrap (X * D) = (N : Int) := by rw [hN]; exact IntWalk.i64_in _ (by omega)
  have hup : N ≤ upN N ∧ upN N ≤ N + 31 ∧ upN N % 32 = 0 := by unfold upN; omega
  obtain ⟨U, hU⟩ : ∃ U, upN N = U := ⟨_, rfl⟩
  have hmin : ∀ k, N ≤ k → k < U → k % 32 ≠ 0 := by intro k h1 h2; rw [← hU] at h2; unfold upN at h2; omega
  rw [hU] at hup ⊢
  obtain ⟨R, hR⟩ : ∃ R : Int, ((U / 8 : Nat) : Int) = R := ⟨_, rfl⟩
  rw [hR]
  have HR := Lib.hid hR
  have HU := Lib.hid hup
  have HMIN := Lib.hid hmin
  have HW := Lib.hid (World.grownBy_alloc W (.cells #[.int .i64 S, .int .i64 X, .int .i64 Y, .bool tp, .int .i64 D, .int .i64 M, .int .i64 C, .int .i64 m0, .int .i64 m1, .int .i64 m2, .int .i64 m3, .int .i64 p, .int .i64 q, .int .i64 z0, .int .i64 z1] 37) none)
  clear hN hU hmin hup hR
  go_enter Tryd.func15, Tryd.ntmps15
  go_wp2_with fail
  go_loopg [3] (U - N) (fun mq nv wr => ∃ k : Nat, N ≤ k ∧ k ≤ U ∧ mq = U - k ∧ nv = .int .i64 k ∧ W.grownBy wr none)
  case atStart => exact ⟨N, Nat.le_refl _, HU.out.1, rfl, rfl, HW.out⟩
  case round =>
    obtain ⟨k, h1, h2, rfl, rfl, hg⟩ := hrel
    have HG := Lib.hid hg
    clear hg
    have hu := HU.out
    by_cases hk : k = U
    · subst hk
      have r0 : Int.tmod (k : Int) 32 = 0 := by rw [Int.tmod_eq_emod_of_nonneg (by omega)]; omega
      have r1 : (Int.tmod (k : Int) 32 != 0) = false := by rw [r0]; rfl
      have hR := HR.out
      have q8 : Int.tdiv (k : Int) 8 = R := by rw [Int.tdiv_eq_ediv_of_nonneg (by omega), ← hR]; omega
      have wq : IntKind.i64.wrap R = R := IntWalk.i64_in _ (by omega)
      clear hu h1 h2 HMIN HU hb hR HR
      go_wp2
      go_ret
      exact ⟨by simp [*], HG.out⟩
    · have hm := HMIN.out k h1 (by omega)
      have r0 : Int.tmod (k : Int) 32 ≠ 0 := by rw [Int.tmod_eq_emod_of_nonneg (by omega)]; omega
      have r1 : (Int.tmod (k : Int) 32 != 0) = true := by rw [bne_iff_ne]; exact r0
      have r2 : ((k : Int) % 32 != 0) = true := by rw [bne_iff_ne]; omega
      have wk : IntKind.i64.wrap ((k : Int) + 1) = ((k + 1 : Nat) : Int) := by rw [IntWalk.i64_in _ (by omega)]; omega
      have hk1 : k + 1 ≤ U := by omega
      clear hu hm r0 hb hk
      go_wp2
      go_roundg (U - (k + 1))
      case measure => omega
      case rel => exact ⟨k + 1, by omega, hk1, rfl, by first | rfl | simp [*] | go_num, HG.out⟩

end Go.Proofs.YtikjfmpdfeaooaaDoor.Dh
