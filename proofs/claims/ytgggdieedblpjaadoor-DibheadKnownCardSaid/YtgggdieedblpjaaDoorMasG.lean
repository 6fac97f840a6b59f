/- Layer 9: the code's Four, walked. -/
import Derived.Test.YtgggdieedblpjaaDoorMasD
namespace Go.Proofs.YtgggdieedblpjaaDoor.Ma
open Go.ChangeShapes Go.WideShapes Go.ChangeAt Go.RowKit
open Go.Proofs.YtgggdieedblpjaaDoor.Le Go.Proofs.YtgggdieedblpjaaDoor.Sc
set_option linter.unusedVariables false

theorem bits_or_nat (a b : Nat) (ha : a < 4294967296) (hb : b < 4294967296) : bits .or .i64 (a : Int) (b : Int) = ((a ||| b : Nat) : Int) := by
  have hx : a ||| b < 2 ^ 32 := Nat.or_lt_two_pow (by omega) (by omega)
  have h1 : (BitVec.ofInt 64 (a : Int)).toNat = a := by
    rw [BitVec.ofInt_natCast, BitVec.toNat_ofNat]; exact Nat.mod_eq_of_lt (by omega)
  have h2 : (BitVec.ofInt 64 (b : Int)).toNat = b := by
    rw [BitVec.ofInt_natCast, BitVec.toNat_ofNat]; exact Nat.mod_eq_of_lt (by omega)
  show IntKind.i64.wrap ((BitVec.ofInt 64 (a : Int) ||| BitVec.ofInt 64 (b : Int)).toNat : Int) = _
  rw [BitVec.toNat_or, h1, h2, IntKind.wrap_i64]
  omega
theorem bits_and_nat (a b : Nat) (ha : a < 4294967296) (hb : b < 4294967296) : bits .and .i64 (a : Int) (b : Int) = ((a &&& b : Nat) : Int) := by
  have hx : a &&& b < 2 ^ 32 := Nat.and_lt_two_pow _ (by omega)
  have h1 : (BitVec.ofInt 64 (a : Int)).toNat = a := by
    rw [BitVec.ofInt_natCast, BitVec.toNat_ofNat]; exact Nat.mod_eq_of_lt (by omega)
  have h2 : (BitVec.ofInt 64 (b : Int)).toNat = b := by
    rw [BitVec.ofInt_natCast, BitVec.toNat_ofNat]; exact Nat.mod_eq_of_lt (by omega)
  show IntKind.i64.wrap ((BitVec.ofInt 64 (a : Int) &&& BitVec.ofInt 64 (b : Int)).toNat : Int) = _
  rw [BitVec.toNat_and, h1, h2, IntKind.wrap_i64]
  omega

theorem results_cell_tmp2 {fn : Func} {p u v : Tmp} {ty : TypeId} (h : fn.results = #[.cell p ty, .tmp u, .tmp v]) (tmps : Array Value) (P : Program) (w : World) :
    (results fn tmps).run P w =
      ((asAddr (tmps.getD p undef)).run P w).andThen fun a w₁ => ((loadVar ty a).run P w₁).andThen fun x w₂ => .ok (.tuple #[x, tmps.getD u undef, tmps.getD v undef]) w₂ := by
  simp only [results, h]
  simp [Sem.run_bind, Result.andThen]

/-- The bits of the masks ahead. -/
def ahead (m : Nat → Nat) : Nat → Nat
  | 0 => 0
  | k + 1 => ahead m k ||| m k
theorem ahead_lt {m : Nat → Nat} : ∀ {k : Nat}, (∀ j, j < k → m j < 4294967296) → ahead m k < 4294967296
  | 0, _ => (by decide : 0 < 4294967296)
  | k + 1, h => by
    have h1 := ahead_lt (k := k) (fun j hj => h j (by omega))
    have h2 := h k (by omega)
    exact Nat.or_lt_two_pow (n := 32) h1 h2

/-- What holds at the head of the loop over the masks. -/
structure FI (W : World) (s n : Nat → Nat) (k : Nat) (w : World) : Prop where
  res : w.heap[W.heap.size]? = some (.cells #[.int .i64 0, .int .i64 0, .int .i64 0, .int .i64 0, .int .i64 0, .int .i64 0, .int .i64 0, .int .i64 0] 29 (0, 0))
  pl : w.heap[W.heap.size + 1]? = some (.cells #[.int .i64 (if 0 < k then (s 0 : Int) else 0), .int .i64 (if 0 < k then (n 0 : Int) else 0), .int .i64 (if 1 < k then (s 1 : Int) else 0), .int .i64 (if 1 < k then (n 1 : Int) else 0), .int .i64 (if 2 < k then (s 2 : Int) else 0), .int .i64 (if 2 < k then (n 2 : Int) else 0), .int .i64 (if 3 < k then (s 3 : Int) else 0), .int .i64 (if 3 < k then (n 3 : Int) else 0)] 121 (0, 0))
  gb : W.grownBy w none

theorem FI.grown {W : World} {s n : Nat → Nat} {k : Nat} {w w' : World} (h : FI W s n k w) (g : w.grownBy w' none) : FI W s n k w' :=
  ⟨old0 g h.res (blk_lt h.res) (by simp), old0 g h.pl (blk_lt h.pl) (by simp), gb_trans h.gb g⟩
theorem FI.next {W : World} {s n : Nat → Nat} {k : Nat} {w : World} (h : FI W s n k w) (hk : k < 4) : FI W s n (k + 1) ((w.setCell ⟨W.heap.size + 1, k * 2, none⟩ (.int .i64 (s k))).setCell ⟨W.heap.size + 1, k * 2 + 1, none⟩ (.int .i64 (n k))) := by
  refine ⟨blk_other (blk_other h.res (by omega)) (by omega), ?_, gb_own (gb_own h.gb (by omega) (gb_set _ _ _ _)) (by omega) (gb_set _ _ _ _)⟩
  rw [blk_set (blk_set h.pl _ _)]
  obtain rfl | rfl | rfl | rfl : k = 0 ∨ k = 1 ∨ k = 2 ∨ k = 3 := by omega
  all_goals rfl
theorem FI.cells {W : World} {s n : Nat → Nat} {k : Nat} {w : World} (h : FI W s n k w) (hk : k < 4) : w.cell? ⟨W.heap.size + 1, k * 2, none⟩ = some (.int .i64 0) ∧ w.cell? ⟨W.heap.size + 1, k * 2 + 1, none⟩ = some (.int .i64 0) := by
  rw [blk_cell h.pl, blk_cell h.pl]
  obtain rfl | rfl | rfl | rfl : k = 0 ∨ k = 1 ∨ k = 2 ∨ k = 3 := by omega
  all_goals exact ⟨rfl, rfl⟩

theorem idx_four (M : Nat → Int) (k : Nat) (hk : k < 4) (w : World) :
    (Instr.index 112 (.agg #[.int .i64 (M 0), .int .i64 (M 1), .int .i64 (M 2), .int .i64 (M 3)]) (.int .i64 (k : Int))).run Tryd.prog w = .ok (.int .i64 (M k)) w := by
  obtain rfl | rfl | rfl | rfl : k = 0 ∨ k = 1 ∨ k = 2 ∨ k = 3 := by omega
  all_goals kernel_rfl

/-- Find, of a mask. -/
def FindIs (M width s n c : Int) : Prop := ∀ u, Tab u → 0 < u.heap.size → Calls Tryd.prog 64 #[.int .i64 M, .int .i64 width] u fun e w' => e = .returned (.tuple #[.agg #[.int .i64 s, .int .i64 n], .int .i64 c]) ∧ u.grownBy w' none

/-- What stops the loop over the masks at t: nothing; Find's error; a bit in common. -/
def Stops (M : Nat → Int) (s n m : Nat → Nat) (width : Int) (t : Nat) (res : Array Value) (i c : Int) : Prop :=
  (t = 4 ∧ res = set8 (s 0) (n 0) (s 1) (n 1) (s 2) (n 2) (s 3) (n 3) ∧ i = 0 ∧ c = 0) ∨
  (t < 4 ∧ res = set8 0 0 0 0 0 0 0 0 ∧ i = t ∧ (c != 0) = true ∧ FindIs (M t) width 0 0 c) ∨
  (t < 4 ∧ res = set8 0 0 0 0 0 0 0 0 ∧ i = t ∧ c = 11 ∧ M t = (m t : Nat) ∧ m t < 4294967296 ∧ m t &&& ahead m t ≠ 0 ∧ FindIs (M t) width (s t) (n t) 0)

set_option maxRecDepth 100000 in
set_option maxHeartbeats 2000000 in
theorem four_core (M : Nat → Int) (s n m : Nat → Nat) (width : Int) (t : Nat) (res : Array Value) (r c : Int) (W : World) (hlt : 0 < W.heap.size) (hT : Tab W) (ht : t ≤ 4)
    (hM : ∀ k, k < t → M k = (m k : Nat)) (hm : ∀ k, k < t → m k < 4294967296)
    (hx : ∀ k, k < t → m k &&& ahead m k = 0)
    (KF : ∀ k, k < t → FindIs (M k) width (s k) (n k) 0) (hS : Stops M s n m width t res r c) :
    Calls Tryd.prog 53 #[.int .i64 (M 0), .int .i64 (M 1), .int .i64 (M 2), .int .i64 (M 3), .int .i64 width] W
    fun e w' => e = .returned (.tuple #[.agg res, .int .i64 r, .int .i64 c]) ∧ W.grownBy w' none := by
  have KF' := Lib.hid KF
  have HM := Lib.hid hM
  have Hm := Lib.hid hm
  have HX := Lib.hid hx
  have HT := Lib.hid hT
  have HS := Lib.hid hS
  clear KF hM hm hx hT hS
  go_enter Tryd.func53, Tryd.ntmps53
  go_wp2_with fail
  have I1 : FI W s n 0 ((W.alloc (.cells #[.int .i64 0, .int .i64 0, .int .i64 0, .int .i64 0, .int .i64 0, .int .i64 0, .int .i64 0, .int .i64 0] 29)).alloc (.cells #[.int .i64 0, .int .i64 0, .int .i64 0, .int .i64 0, .int .i64 0, .int .i64 0, .int .i64 0, .int .i64 0] 121)) :=
    ⟨blk_al blk_at _, by rw [← size_alloc W (.cells #[.int .i64 0, .int .i64 0, .int .i64 0, .int .i64 0, .int .i64 0, .int .i64 0, .int .i64 0, .int .i64 0] 29)]; exact blk_at, gb_trans (World.grownBy_alloc _ _ _) (World.grownBy_alloc _ _ _)⟩
  generalize (W.alloc (.cells #[.int .i64 0, .int .i64 0, .int .i64 0, .int .i64 0, .int .i64 0, .int .i64 0, .int .i64 0, .int .i64 0] 29)).alloc (.cells #[.int .i64 0, .int .i64 0, .int .i64 0, .int .i64 0, .int .i64 0, .int .i64 0, .int .i64 0, .int .i64 0] 121) = w1 at I1 ⊢
  have HI1 := Lib.hid I1
  clear I1
  go_loopg [14, 24] 4 (fun q av iv wr => ∃ (k : Nat), k ≤ t ∧ q = 4 - k ∧ av = .int .i64 (ahead m k : Nat) ∧ iv = .int .i64 k ∧ FI W s n k wr)
  case atStart => exact ⟨0, by omega, rfl, rfl, rfl, HI1.out⟩
  case round =>
    obtain ⟨k, hk, rfl, rfl, rfl, J⟩ := hrel
    have hpl : W.heap.size + 1 < wr.heap.size := blk_lt J.pl
    have r0 : wr.cell? ⟨W.heap.size, 0, none⟩ = some (.int .i64 0) := blk_cell J.res 0
    have r1 : wr.cell? ⟨W.heap.size, 1, none⟩ = some (.int .i64 0) := blk_cell J.res 1
    have r2 : wr.cell? ⟨W.heap.size, 2, none⟩ = some (.int .i64 0) := blk_cell J.res 2
    have r3 : wr.cell? ⟨W.heap.size, 3, none⟩ = some (.int .i64 0) := blk_cell J.res 3
    have r4 : wr.cell? ⟨W.heap.size, 4, none⟩ = some (.int .i64 0) := blk_cell J.res 4
    have r5 : wr.cell? ⟨W.heap.size, 5, none⟩ = some (.int .i64 0) := blk_cell J.res 5
    have r6 : wr.cell? ⟨W.heap.size, 6, none⟩ = some (.int .i64 0) := blk_cell J.res 6
    have r7 : wr.cell? ⟨W.heap.size, 7, none⟩ = some (.int .i64 0) := blk_cell J.res 7
    have g0 := blk_free J.res 0
    have g1 := blk_free J.res 1
    have g2 := blk_free J.res 2
    have g3 := blk_free J.res 3
    have g4 := blk_free J.res 4
    have g5 := blk_free J.res 5
    have g6 := blk_free J.res 6
    have g7 := blk_free J.res 7
    have HJ := Lib.hid J
    clear J HI1
    by_cases hkt : k < t
    · have h4 : k < 4 := by omega
      clear r0 r1 r2 r3 r4 r5 r6 r7 g0 g1 g2 g3 g4 g5 g6 g7
      have hidx := idx_four M k h4
      have KFk := KF'.out k hkt wr (HT.out.grown hlt HJ.out.gb) (Nat.lt_of_lt_of_le hlt HJ.out.gb.size)
      have hMk := HM.out k hkt
      have hmk := Hm.out k hkt
      have hah := ahead_lt (m := m) (k := k) (fun j hj => Hm.out j (by omega))
      have ha := bits_and_nat (m k) (ahead m k) hmk hah
      rw [HX.out k hkt] at ha
      have ho := bits_or_nat (ahead m k) (m k) hah hmk
      have hnext : ahead m k ||| m k = ahead m (k + 1) := rfl
      rw [hnext] at ho
      rw [hMk] at hidx KFk
      obtain ⟨a, hA⟩ : ∃ a, ahead m k = a := ⟨_, rfl⟩
      obtain ⟨a', hA'⟩ : ∃ a, ahead m (k + 1) = a := ⟨_, rfl⟩
      obtain ⟨mk, hMM⟩ : ∃ a, m k = a := ⟨_, rfl⟩
      rw [hA] at ha ho ⊢
      rw [hA'] at ho
      rw [hMM] at hidx KFk ha ho
      have HA' := Lib.hid hA'
      have HAnd := Lib.hid ha
      have HOr := Lib.hid ho
      have KFh := Lib.hid KFk
      clear KFk hMk hmk hah ha ho hnext hA hA' hMM
      go_wp2_with fail
      refine KFh.out.mono ?_
      rintro e w6 ⟨rfl, g6⟩
      have J6 := HJ.out.grown (gb_trans g6 (World.grownBy_alloc w6 (.cells #[.int .i64 (s k : Int), .int .i64 (n k : Int)] 27) none))
      obtain ⟨x0, x1⟩ := J6.cells h4
      have f0 := blk_free J6.pl (k * 2)
      have f1 := blk_free J6.pl (k * 2 + 1)
      have HJ6 := Lib.hid J6
      have ha := HAnd.out
      have ho := HOr.out
      clear g6 J6
      go_wp2
      go_roundg (4 - (k + 1))
      case measure => omega
      case rel => exact ⟨k + 1, by omega, rfl, by rw [HA'.out], by go_num, HJ6.out.next h4⟩
    · obtain rfl : k = t := by omega
      rcases HS.out with ⟨h4, hres, hr, hc⟩ | ⟨h4, hres, hr, hc, KE⟩ | ⟨h4, hres, hr, hc, hMt, hmt, hxt, KE⟩
      · unfold set8 at hres
        subst h4 hres hr hc
        have p0 : wr.cell? ⟨W.heap.size + 1, 0, none⟩ = some (.int .i64 (s 0)) := blk_cell HJ.out.pl 0
        have p1 : wr.cell? ⟨W.heap.size + 1, 1, none⟩ = some (.int .i64 (n 0)) := blk_cell HJ.out.pl 1
        have p2 : wr.cell? ⟨W.heap.size + 1, 2, none⟩ = some (.int .i64 (s 1)) := blk_cell HJ.out.pl 2
        have p3 : wr.cell? ⟨W.heap.size + 1, 3, none⟩ = some (.int .i64 (n 1)) := blk_cell HJ.out.pl 3
        have p4 : wr.cell? ⟨W.heap.size + 1, 4, none⟩ = some (.int .i64 (s 2)) := blk_cell HJ.out.pl 4
        have p5 : wr.cell? ⟨W.heap.size + 1, 5, none⟩ = some (.int .i64 (n 2)) := blk_cell HJ.out.pl 5
        have p6 : wr.cell? ⟨W.heap.size + 1, 6, none⟩ = some (.int .i64 (s 3)) := blk_cell HJ.out.pl 6
        have p7 : wr.cell? ⟨W.heap.size + 1, 7, none⟩ = some (.int .i64 (n 3)) := blk_cell HJ.out.pl 7
        have HG := Lib.hid HJ.out.gb
        clear HJ
        go_wp2
        refine bodyPost_ret (v := .tuple #[.agg #[.int .i64 (s 0), .int .i64 (n 0), .int .i64 (s 1), .int .i64 (n 1), .int .i64 (s 2), .int .i64 (n 2), .int .i64 (s 3), .int .i64 (n 3)], .int .i64 0, .int .i64 0]) (by rw [results_cell_tmp2 (fn := Tryd.f53) rfl]; go_simp) rfl ⟨rfl, ?_⟩
        exact gb_own (gb_own (gb_own (gb_own (gb_own (gb_own (gb_own (gb_own HG.out (Nat.le_refl _) (gb_set _ _ _ _)) (Nat.le_refl _) (gb_set _ _ _ _)) (Nat.le_refl _) (gb_set _ _ _ _)) (Nat.le_refl _) (gb_set _ _ _ _)) (Nat.le_refl _) (gb_set _ _ _ _)) (Nat.le_refl _) (gb_set _ _ _ _)) (Nat.le_refl _) (gb_set _ _ _ _)) (Nat.le_refl _) (gb_set _ _ _ _)
      · unfold set8 at hres
        subst hres hr
        have hidx := idx_four M k h4
        have KEk := Lib.hid (KE wr (HT.out.grown hlt HJ.out.gb) (Nat.lt_of_lt_of_le hlt HJ.out.gb.size))
        obtain ⟨mk, hMM⟩ : ∃ a, M k = a := ⟨_, rfl⟩
        rw [hMM] at hidx KEk
        clear KE hMM
        go_wp2_with fail
        refine KEk.out.mono ?_
        rintro e w6 ⟨rfl, q6⟩
        have J6 := HJ.out.grown (gb_trans q6 (World.grownBy_alloc w6 (.cells #[.int .i64 0, .int .i64 0] 27) none))
        have HJ6 := Lib.hid J6
        clear r0 r1 r2 r3 r4 r5 r6 r7 g0 g1 g2 g3 g4 g5 g6 g7
        have r0 := blk_cell J6.res 0
        have r1 := blk_cell J6.res 1
        have r2 := blk_cell J6.res 2
        have r3 := blk_cell J6.res 3
        have r4 := blk_cell J6.res 4
        have r5 := blk_cell J6.res 5
        have r6 := blk_cell J6.res 6
        have r7 := blk_cell J6.res 7
        simp only [List.getElem?_toArray, List.getElem?_cons_succ, List.getElem?_cons_zero] at r0 r1 r2 r3 r4 r5 r6 r7
        have g0 := blk_free J6.res 0
        have g1 := blk_free J6.res 1
        have g2 := blk_free J6.res 2
        have g3 := blk_free J6.res 3
        have g4 := blk_free J6.res 4
        have g5 := blk_free J6.res 5
        have g6 := blk_free J6.res 6
        have g7 := blk_free J6.res 7
        clear J6 q6
        go_wp2
        refine bodyPost_ret (v := .tuple #[.agg #[.int .i64 0, .int .i64 0, .int .i64 0, .int .i64 0, .int .i64 0, .int .i64 0, .int .i64 0, .int .i64 0], .int .i64 k, .int .i64 c]) (by rw [results_cell_tmp2 (fn := Tryd.f53) rfl]; go_simp) rfl ⟨rfl, ?_⟩
        exact gb_own (gb_own (gb_own (gb_own (gb_own (gb_own (gb_own (gb_own HJ6.out.gb (Nat.le_refl _) (gb_set _ _ _ _)) (Nat.le_refl _) (gb_set _ _ _ _)) (Nat.le_refl _) (gb_set _ _ _ _)) (Nat.le_refl _) (gb_set _ _ _ _)) (Nat.le_refl _) (gb_set _ _ _ _)) (Nat.le_refl _) (gb_set _ _ _ _)) (Nat.le_refl _) (gb_set _ _ _ _)) (Nat.le_refl _) (gb_set _ _ _ _)
      · unfold set8 at hres
        subst hres hr hc
        have hidx := idx_four M k h4
        have KEk := KE wr (HT.out.grown hlt HJ.out.gb) (Nat.lt_of_lt_of_le hlt HJ.out.gb.size)
        have hah := ahead_lt (m := m) (k := k) (fun j hj => Hm.out j hj)
        have ha := bits_and_nat (m k) (ahead m k) hmt hah
        obtain ⟨y, hy⟩ : ∃ y, m k &&& ahead m k = y := ⟨_, rfl⟩
        rw [hy] at ha hxt
        have hyy : ((y : Int) != 0) = true := by simp; omega
        obtain ⟨a, hA⟩ : ∃ a, ahead m k = a := ⟨_, rfl⟩
        rw [hMt] at hidx KEk
        obtain ⟨mk, hMM⟩ : ∃ a, m k = a := ⟨_, rfl⟩
        rw [hA] at ha ⊢
        rw [hMM] at hidx KEk ha
        have KEh := Lib.hid KEk
        have HAnd := Lib.hid ha
        clear KE KEk hMM hMt hmt hxt hah ha hy hA
        go_wp2_with fail
        refine KEh.out.mono ?_
        rintro e w6 ⟨rfl, q6⟩
        have J6 := HJ.out.grown (gb_trans q6 (World.grownBy_alloc w6 (.cells #[.int .i64 (s k : Int), .int .i64 (n k : Int)] 27) none))
        have HJ6 := Lib.hid J6
        have ha := HAnd.out
        clear r0 r1 r2 r3 r4 r5 r6 r7 g0 g1 g2 g3 g4 g5 g6 g7
        have r0 := blk_cell J6.res 0
        have r1 := blk_cell J6.res 1
        have r2 := blk_cell J6.res 2
        have r3 := blk_cell J6.res 3
        have r4 := blk_cell J6.res 4
        have r5 := blk_cell J6.res 5
        have r6 := blk_cell J6.res 6
        have r7 := blk_cell J6.res 7
        simp only [List.getElem?_toArray, List.getElem?_cons_succ, List.getElem?_cons_zero] at r0 r1 r2 r3 r4 r5 r6 r7
        have g0 := blk_free J6.res 0
        have g1 := blk_free J6.res 1
        have g2 := blk_free J6.res 2
        have g3 := blk_free J6.res 3
        have g4 := blk_free J6.res 4
        have g5 := blk_free J6.res 5
        have g6 := blk_free J6.res 6
        have g7 := blk_free J6.res 7
        clear J6 q6
        go_wp2
        refine bodyPost_ret (v := .tuple #[.agg #[.int .i64 0, .int .i64 0, .int .i64 0, .int .i64 0, .int .i64 0, .int .i64 0, .int .i64 0, .int .i64 0], .int .i64 k, .int .i64 11]) (by rw [results_cell_tmp2 (fn := Tryd.f53) rfl]; go_simp) rfl ⟨rfl, ?_⟩
        exact gb_own (gb_own (gb_own (gb_own (gb_own (gb_own (gb_own (gb_own HJ6.out.gb (Nat.le_refl _) (gb_set _ _ _ _)) (Nat.le_refl _) (gb_set _ _ _ _)) (Nat.le_refl _) (gb_set _ _ _ _)) (Nat.le_refl _) (gb_set _ _ _ _)) (Nat.le_refl _) (gb_set _ _ _ _)) (Nat.le_refl _) (gb_set _ _ _ _)) (Nat.le_refl _) (gb_set _ _ _ _)) (Nat.le_refl _) (gb_set _ _ _ _)

end Go.Proofs.YtgggdieedblpjaaDoor.Ma
