/- Texts of one kind, one behind the other: MasC, MasD, MasG, MasH, MasI. -/
import Derived.Deep.LoopGhost
import Derived.Test.YtikjfmpdfeaooaaDoorG10
import Derived.Test.YtikjfmpdfeaooaaDoorG11
import Derived.Test.YtikjfmpdfeaooaaDoorG13
/- Layer 9, in a seat without colours: nothing but the loop's tactic. -/

/- Layer 9: a word's colour, by the places; the chapter's examples. -/
namespace Go.Proofs.YtikjfmpdfeaooaaDoor.Ma
open Go.ChangeShapes Go.WideShapes Go.ChangeAt Go.RowKit
open Go.Proofs.YtikjfmpdfeaooaaDoor.Le Go.Proofs.YtikjfmpdfeaooaaDoor.Sc
set_option linter.unusedVariables false

/-- A place that Find may tell: of no bits, or of bits of a long word. -/
def okP (s n : Nat) : Prop := (s = 0 ∧ n = 0) ∨ (1 ≤ n ∧ s + n ≤ 32)
/-- The mask of a place. -/
def maskW (s n : Nat) : Nat := if n = 0 then 0 else blk s n

end Go.Proofs.YtikjfmpdfeaooaaDoor.Ma

/- Layer 9: the code's Four, walked. -/
namespace Go.Proofs.YtikjfmpdfeaooaaDoor.Ma
open Go.ChangeShapes Go.WideShapes Go.ChangeAt Go.RowKit
open Go.Proofs.YtikjfmpdfeaooaaDoor.Le Go.Proofs.YtikjfmpdfeaooaaDoor.Sc
set_option linter.unusedVariables false

theorem bits_or_nat (a b : Nat) (ha : a < 4294967296) (hb : b < 4294967296) : bits .or .i64 (a : Int) (b : Int) = ((a ||| b : Nat) : Int) := by
  have hx : a ||| b < 2 ^ 32 := Nat.or_lt_two_pow (by omega) (by omega)
  have h1 : (BitVec.ofInt 64 (a : Int)).toNat = a := by
    rw [BitVec.ofInt_natCast, BitVec.toNat_ofNat]; exact Nat.mod_eq_of_lt (by omega)
  have h2 : (BitVec.ofInt 64 (b : Int)).toNat = b := by
    rw [BitVec.ofInt_natCast, BitVec.toNat_ofNat]; exact Nat.mod_eq_of_lt (by omega)
  show IntKind.i64.wrap ((BitVec.ofInt 64 (a : Int) ||| BitVec.ofInt 64 (b : Int)).toNat : Int) = _
  rw [BitVec.toNat_or, h1, h2, IntKind.wrap_i64]
  omega
theorem bits_and_nat (a b : Nat) (ha : a < 4294967296) (hb : b < 4294967296) : bits .and .i64 (a : Int) (b : Int) = ((a &&& b : Nat) : Int) := by
  have hx : a &&& b < 2 ^ 32 := Nat.and_lt_two_pow _ (by omega)
  have h1 : (BitVec.ofInt 64 (a : Int)).toNat = a := by
    rw [BitVec.ofInt_natCast, BitVec.toNat_ofNat]; exact Nat.mod_eq_of_lt (by omega)
  have h2 : (BitVec.ofInt 64 (b : Int)).toNat = b := by
    rw [BitVec.ofInt_natCast, BitVec.toNat_ofNat]; exact Nat.mod_eq_of_lt (by omega)
  show IntKind.i64.wrap ((BitVec.ofInt 64 (a : Int) &&& BitVec.ofInt 64 (b : Int)).toNat : Int) = _
  rw [BitVec.toNat_and, h1, h2, IntKind.wrap_i64]
  omega

theorem results_cell_tmp2 {fn : Func} {p u v : Tmp} {ty : TypeId} (h : fn.results = #[.cell p ty, .tmp u, .tmp v]) (tmps : Array Value) (P : Program) (w : World) :
    (results fn tmps).run P w =
      ((asAddr (tmps.getD p undef)).run P w).andThen fun a w₁ => ((loadVar ty a).run P w₁).andThen fun x w₂ => .ok (.tuple #[x, tmps.getD u undef, tmps.getD v undef]) w₂ := by
  simp only [results, h]
  simp [Sem.run_bind, Result.andThen]

/-- The bits of the masks ahead. -/
def ahead (m : Nat → Nat) : Nat → Nat
  | 0 => 0
  | k + 1 => ahead m k ||| m k
theorem ahead_lt {m : Nat → Nat} : ∀ {k : Nat}, (∀ j, j < k → m j < 4294967296) → ahead m k < 4294967296
  | 0, _ => (by decide : 0 < 4294967296)
  | k + 1, h => by
    have h1 := ahead_lt (k := k) (fun j hj => h j (by omega))
    have h2 := h k (by omega)
    exact Nat.or_lt_two_pow (n := 32) h1 h2

/-- What holds at the head of the loop over the masks. -/
structure FI (W : World) (s n : Nat → Nat) (k : Nat) (w : World) : Prop where
  res : w.heap[W.heap.size]? = some (.cells #[.int .i64 0, .int .i64 0, .int .i64 0, .int .i64 0, .int .i64 0, .int .i64 0, .int .i64 0, .int .i64 0] 29 (0, 0))
  pl : w.heap[W.heap.size + 1]? = some (.cells #[.int .i64 (if 0 < k then (s 0 : Int) else 0), .int .i64 (if 0 < k then (n 0 : Int) else 0), .int .i64 (if 1 < k then (s 1 : Int) else 0), .int .i64 (if 1 < k then (n 1 : Int) else 0), .int .i64 (if 2 < k then (s 2 : Int) else 0), .int .i64 (if 2 < k then (n 2 : Int) else 0), .int .i64 (if 3 < k then (s 3 : Int) else 0), .int .i64 (if 3 < k then (n 3 : Int) else 0)] 121 (0, 0))
  gb : W.grownBy w none

theorem FI.grown {W : World} {s n : Nat → Nat} {k : Nat} {w w' : World} (h : FI W s n k w) (g : w.grownBy w' none) : FI W s n k w' :=
  ⟨old0 g h.res (blk_lt h.res) (by simp), old0 g h.pl (blk_lt h.pl) (by simp), gb_trans h.gb g⟩
theorem FI.next {W : World} {s n : Nat → Nat} {k : Nat} {w : World} (h : FI W s n k w) (hk : k < 4) : FI W s n (k + 1) ((w.setCell ⟨W.heap.size + 1, k * 2, none⟩ (.int .i64 (s k))).setCell ⟨W.heap.size + 1, k * 2 + 1, none⟩ (.int .i64 (n k))) := by
  refine ⟨blk_other (blk_other h.res (by omega)) (by omega), ?_, gb_own (gb_own h.gb (by omega) (gb_set _ _ _ _)) (by omega) (gb_set _ _ _ _)⟩
  rw [blk_set (blk_set h.pl _ _)]
  obtain rfl | rfl | rfl | rfl : k = 0 ∨ k = 1 ∨ k = 2 ∨ k = 3 := by omega
  all_goals rfl
theorem FI.cells {W : World} {s n : Nat → Nat} {k : Nat} {w : World} (h : FI W s n k w) (hk : k < 4) : w.cell? ⟨W.heap.size + 1, k * 2, none⟩ = some (.int .i64 0) ∧ w.cell? ⟨W.heap.size + 1, k * 2 + 1, none⟩ = some (.int .i64 0) := by
  rw [blk_cell h.pl, blk_cell h.pl]
  obtain rfl | rfl | rfl | rfl : k = 0 ∨ k = 1 ∨ k = 2 ∨ k = 3 := by omega
  all_goals exact ⟨rfl, rfl⟩

theorem idx_four (M : Nat → Int) (k : Nat) (hk : k < 4) (w : World) :
    (Instr.index 112 (.agg #[.int .i64 (M 0), .int .i64 (M 1), .int .i64 (M 2), .int .i64 (M 3)]) (.int .i64 (k : Int))).run Tryd.prog w = .ok (.int .i64 (M k)) w := by
  obtain rfl | rfl | rfl | rfl : k = 0 ∨ k = 1 ∨ k = 2 ∨ k = 3 := by omega
  all_goals kernel_rfl

/-- Find, of a mask. -/
def FindIs (M width s n c : Int) : Prop := ∀ u, Tab u → 0 < u.heap.size → Calls Tryd.prog 64 #[.int .i64 M, .int .i64 width] u fun e w' => e = .returned (.tuple #[.agg #[.int .i64 s, .int .i64 n], .int .i64 c]) ∧ u.grownBy w' none

/-- What stops the loop over the masks at t: nothing; Find's error; a bit in common. -/
def Stops (M : Nat → Int) (s n m : Nat → Nat) (width : Int) (t : Nat) (res : Array Value) (i c : Int) : Prop :=
  (t = 4 ∧ res = set8 (s 0) (n 0) (s 1) (n 1) (s 2) (n 2) (s 3) (n 3) ∧ i = 0 ∧ c = 0) ∨
  (t < 4 ∧ res = set8 0 0 0 0 0 0 0 0 ∧ i = t ∧ (c != 0) = true ∧ FindIs (M t) width 0 0 c) ∨
  (t < 4 ∧ res = set8 0 0 0 0 0 0 0 0 ∧ i = t ∧ c = 11 ∧ M t = (m t : Nat) ∧ m t < 4294967296 ∧ m t &&& ahead m t ≠ 0 ∧ FindIs (M t) width (s t) (n t) 0)

set_option maxRecDepth 100000 in
set_option maxHeartbeats 2000000 in
theorem four_core (M : Nat → Int) (s n m : Nat → Nat) (width : Int) (t : Nat) (res : Array Value) (r c : Int) (W : World) (hlt : 0 < W.heap.size) (hT : Tab W) (ht : t ≤ 4)
    (hM : ∀ k, k < t → M k = (m k : Nat)) (hm : ∀ k, k < t → m k < 4294967296)
    (hx : ∀ k, k < t → m k &&& ahead m k = 0)
    (KF : ∀ k, k < t → FindIs (M k) width (s k) (n k) 0) (hS : Stops M s n m width t res r c) :
    Calls Tryd.prog 53 #[.int .i64 (M 0), .int .i64 (M 1), .int .i64 (M 2), .int .i64 (M 3), .int .i64 width] W
    fun e w' => e = .returned (.tuple #[.agg res, .int .i64 r, .int .i64 c]) ∧ W.grownBy w' none := by
  have KF' := Lib.hid KF
  have HM := Lib.hid hM
  have Hm := Lib.hid hm
  have HX := Lib.hid hx
  have HT := Lib.hid hT
  have HS := Lib.hid hS
  clear KF hM hm hx hT hS
  go_enter Tryd.func53, Tryd.ntmps53
  go_wp2_with fail
  have I1 : FI W s n 0 ((W.alloc (.cells #[.int .i64 0, .int .i64 0, .int .i64 0, .int .i64 0, .int .i64 0, .int .i64 0, .int .i64 0, .int .i64 0] 29)).alloc (.cells #[.int .i64 0, .int .i64 0, .int .i64 0, .int .i64 0, .int .i64 0, .int .i64 0, .int .i64 0, .int .i64 0] 121)) :=
    ⟨blk_al blk_at _, by rw [← size_alloc W (.cells #[.int .i64 0, .int .i64 0, .int .i64 0, .int .i64 0, .int .i64 0, .int .i64 0, .int .i64 0, .int .i64 0] 29)]; exact blk_at, gb_trans (World.grownBy_alloc _ _ _) (World.grownBy_alloc _ _ _)⟩
  generalize (W.alloc (.cells #[.int .i64 0, .int .i64 0, .int .i64 0, .int .i64 0, .int .i64 0, .int .i64 0, .int .i64 0, .int .i64 0] 29)).alloc (.cells #[.int .i64 0, .int .i64 0, .int .i64 0, .int .i64 0, .int .i64 0, .int .i64 0, .int .i64 0, .int .i64 0] 121) = w1 at I1 ⊢
  have HI1 := Lib.hid I1
  clear I1
  go_loopg [14, 24] 4 (fun q av iv wr => ∃ (k : Nat), k ≤ t ∧ q = 4 - k ∧ av = .int .i64 (ahead m k : Nat) ∧ iv = .int .i64 k ∧ FI W s n k wr)
  case atStart => exact ⟨0, by omega, rfl, rfl, rfl, HI1.out⟩
  case round =>
    obtain ⟨k, hk, rfl, rfl, rfl, J⟩ := hrel
    have hpl : W.heap.size + 1 < wr.heap.size := blk_lt J.pl
    have r0 : wr.cell? ⟨W.heap.size, 0, none⟩ = some (.int .i64 0) := blk_cell J.res 0
    have r1 : wr.cell? ⟨W.heap.size, 1, none⟩ = some (.int .i64 0) := blk_cell J.res 1
    have r2 : wr.cell? ⟨W.heap.size, 2, none⟩ = some (.int .i64 0) := blk_cell J.res 2
    have r3 : wr.cell? ⟨W.heap.size, 3, none⟩ = some (.int .i64 0) := blk_cell J.res 3
    have r4 : wr.cell? ⟨W.heap.size, 4, none⟩ = some (.int .i64 0) := blk_cell J.res 4
    have r5 : wr.cell? ⟨W.heap.size, 5, none⟩ = some (.int .i64 0) := blk_cell J.res 5
    have r6 : wr.cell? ⟨W.heap.size, 6, none⟩ = some (.int .i64 0) := blk_cell J.res 6
    have r7 : wr.cell? ⟨W.heap.size, 7, none⟩ = some (.int .i64 0) := blk_cell J.res 7
    have g0 := blk_free J.res 0
    have g1 := blk_free J.res 1
    have g2 := blk_free J.res 2
    have g3 := blk_free J.res 3
    have g4 := blk_free J.res 4
    have g5 := blk_free J.res 5
    have g6 := blk_free J.res 6
    have g7 := blk_free J.res 7
    have HJ := Lib.hid J
    clear J HI1
    by_cases hkt : k < t
    · have h4 : k < 4 := by omega
      clear r0 r1 r2 r3 r4 r5 r6 r7 g0 g1 g2 g3 g4 g5 g6 g7
      have hidx := idx_four M k h4
      have KFk := KF'.out k hkt wr (HT.out.grown hlt HJ.out.gb) (Nat.lt_of_lt_of_le hlt HJ.out.gb.size)
      have hMk := HM.out k hkt
      have hmk := Hm.out k hkt
      have hah := ahead_lt (m := m) (k := k) (fun j hj => Hm.out j (by omega))
      have ha := bits_and_nat (m k) (ahead m k) hmk hah
      rw [HX.out k hkt] at ha
      have ho := bits_or_nat (ahead m k) (m k) hah hmk
      have hnext : ahead m k ||| m k = ahead m (k + 1) := rfl
      rw [hnext] at ho
      rw [hMk] at hidx KFk
      obtain ⟨a, hA⟩ : ∃ a, ahead m k = a := ⟨_, rfl⟩
      obtain ⟨a', hA'⟩ : ∃ a, ahead m (k + 1) = a := ⟨_, rfl⟩
      obtain ⟨mk, hMM⟩ : ∃ a, m k = a := ⟨_, rfl⟩
      rw [hA] at ha ho ⊢
      rw [hA'] at ho
      rw [hMM] at hidx KFk ha ho
      have HA' := Lib.hid hA'
      have HAnd := Lib.hid ha
      have HOr := Lib.hid ho
      have KFh := Lib.hid KFk
      clear KFk hMk hmk hah ha ho hnext hA hA' hMM
      go_wp2_with fail
      refine KFh.out.mono ?_
      rintro e w6 ⟨rfl, g6⟩
      have J6 := HJ.out.grown (gb_trans g6 (World.grownBy_alloc w6 (.cells #[.int .i64 (s k : Int), .int .i64 (n k : Int)] 27) none))
      obtain ⟨x0, x1⟩ := J6.cells h4
      have f0 := blk_free J6.pl (k * 2)
      have f1 := blk_free J6.pl (k * 2 + 1)
      have HJ6 := Lib.hid J6
      have ha := HAnd.out
      have ho := HOr.out
      clear g6 J6
      go_wp2
      go_roundg (4 - (k + 1))
      case measure => omega
      case rel => exact ⟨k + 1, by omega, rfl, by rw [HA'.out], by go_num, HJ6.out.next h4⟩
    · obtain rfl : k = t := by omega
      rcases HS.out with ⟨h4, hres, hr, hc⟩ | ⟨h4, hres, hr, hc, KE⟩ | ⟨h4, hres, hr, hc, hMt, hmt, hxt, KE⟩
      · unfold set8 at hres
        subst h4 hres hr hc
        have p0 : wr.cell? ⟨W.heap.size + 1, 0, none⟩ = some (.int .i64 (s 0)) := blk_cell HJ.out.pl 0
        have p1 : wr.cell? ⟨W.heap.size + 1, 1, none⟩ = some (.int .i64 (n 0)) := blk_cell HJ.out.pl 1
        have p2 : wr.cell? ⟨W.heap.size + 1, 2, none⟩ = some (.int .i64 (s 1)) := blk_cell HJ.out.pl 2
        have p3 : wr.cell? ⟨W.heap.size + 1, 3, none⟩ = some (.int .i64 (n 1)) := blk_cell HJ.out.pl 3
        have p4 : wr.cell? ⟨W.heap.size + 1, 4, none⟩ = some (.int .i64 (s 2)) := blk_cell HJ.out.pl 4
        have p5 : wr.cell? ⟨W.heap.size + 1, 5, none⟩ = some (.int .i64 (n 2)) := blk_cell HJ.out.pl 5
        have p6 : wr.cell? ⟨W.heap.size + 1, 6, none⟩ = some (.int .i64 (s 3)) := blk_cell HJ.out.pl 6
        have p7 : wr.cell? ⟨W.heap.size + 1, 7, none⟩ = some (.int .i64 (n 3)) := blk_cell HJ.out.pl 7
        have HG := Lib.hid HJ.out.gb
        clear HJ
        go_wp2
        refine bodyPost_ret (v := .tuple #[.agg #[.int .i64 (s 0), .int .i64 (n 0), .int .i64 (s 1), .int .i64 (n 1), .int .i64 (s 2), .int .i64 (n 2), .int .i64 (s 3), .int .i64 (n 3)], .int .i64 0, .int .i64 0]) (by rw [results_cell_tmp2 (fn := Tryd.f53) rfl]; go_simp) rfl ⟨rfl, ?_⟩
        exact gb_own (gb_own (gb_own (gb_own (gb_own (gb_own (gb_own (gb_own HG.out (Nat.le_refl _) (gb_set _ _ _ _)) (Nat.le_refl _) (gb_set _ _ _ _)) (Nat.le_refl _) (gb_set _ _ _ _)) (Nat.le_refl _) (gb_set _ _ _ _)) (Nat.le_refl _) (gb_set _ _ _ _)) (Nat.le_refl _) (gb_set _ _ _ _)) (Nat.le_refl _) (gb_set _ _ _ _)) (Nat.le_refl _) (gb_set _ _ _ _)
      · unfold set8 at hres
        subst hres hr
        have hidx := idx_four M k h4
        have KEk := Lib.hid (KE wr (HT.out.grown hlt HJ.out.gb) (Nat.lt_of_lt_of_le hlt HJ.out.gb.size))
        obtain ⟨mk, hMM⟩ : ∃ a, M k = a := ⟨_, rfl⟩
        rw [hMM] at hidx KEk
        clear KE hMM
        go_wp2_with fail
        refine KEk.out.mono ?_
        rintro e w6 ⟨rfl, q6⟩
        have J6 := HJ.out.grown (gb_trans q6 (World.grownBy_alloc w6 (.cells #[.int .i64 0, .int .i64 0] 27) none))
        have HJ6 := Lib.hid J6
        clear r0 r1 r2 r3 r4 r5 r6 r7 g0 g1 g2 g3 g4 g5 g6 g7
        have r0 := blk_cell J6.res 0
        have r1 := blk_cell J6.res 1
        have r2 := blk_cell J6.res 2
        have r3 := blk_cell J6.res 3
        have r4 := blk_cell J6.res 4
        have r5 := blk_cell J6.res 5
        have r6 := blk_cell J6.res 6
        have r7 := blk_cell J6.res 7
        simp only [List.getElem?_toArray, List.getElem?_cons_succ, List.getElem?_cons_zero] at r0 r1 r2 r3 r4 r5 r6 r7
        have g0 := blk_free J6.res 0
        have g1 := blk_free J6.res 1
        have g2 := blk_free J6.res 2
        have g3 := blk_free J6.res 3
        have g4 := blk_free J6.res 4
        have g5 := blk_free J6.res 5
        have g6 := blk_free J6.res 6
        have g7 := blk_free J6.res 7
        clear J6 q6
        go_wp2
        refine bodyPost_ret (v := .tuple #[.agg #[.int .i64 0, .int .i64 0, .int .i64 0, .int .i64 0, .int .i64 0, .int .i64 0, .int .i64 0, .int .i64 0], .int .i64 k, .int .i64 c]) (by rw [results_cell_tmp2 (fn := Tryd.f53) rfl]; go_simp) rfl ⟨rfl, ?_⟩
        exact gb_own (gb_own (gb_own (gb_own (gb_own (gb_own (gb_own (gb_own HJ6.out.gb (Nat.le_refl _) (gb_set _ _ _ _)) (Nat.le_refl _) (gb_set _ _ _ _)) (Nat.le_refl _) (gb_set _ _ _ _)) (Nat.le_refl _) (gb_set _ _ _ _)) (Nat.le_refl _) (gb_set _ _ _ _)) (Nat.le_refl _) (gb_set _ _ _ _)) (Nat.le_refl _) (gb_set _ _ _ _)) (Nat.le_refl _) (gb_set _ _ _ _)
      · unfold set8 at hres
        subst hres hr hc
        have hidx := idx_four M k h4
        have KEk := KE wr (HT.out.grown hlt HJ.out.gb) (Nat.lt_of_lt_of_le hlt HJ.out.gb.size)
        have hah := ahead_lt (m := m) (k := k) (fun j hj => Hm.out j hj)
        have ha := bits_and_nat (m k) (ahead m k) hmt hah
        obtain ⟨y, hy⟩ : ∃ y, m k &&& ahead m k = y := ⟨_, rfl⟩
        rw [hy] at ha hxt
        have hyy : ((y : Int) != 0) = true := by simp; omega
        obtain ⟨a, hA⟩ : ∃ a, ahead m k = a := ⟨_, rfl⟩
        rw [hMt] at hidx KEk
        obtain ⟨mk, hMM⟩ : ∃ a, m k = a := ⟨_, rfl⟩
        rw [hA] at ha ⊢
        rw [hMM] at hidx KEk ha
        have KEh := Lib.hid KEk
        have HAnd := Lib.hid ha
        clear KE KEk hMM hMt hmt hxt hah ha hy hA
        go_wp2_with fail
        refine KEh.out.mono ?_
        rintro e w6 ⟨rfl, q6⟩
        have J6 := HJ.out.grown (gb_trans q6 (World.grownBy_alloc w6 (.cells #[.int .i64 (s k : Int), .int .i64 (n k : Int)] 27) none))
        have HJ6 := Lib.hid J6
        have ha := HAnd.out
        clear r0 r1 r2 r3 r4 r5 r6 r7 g0 g1 g2 g3 g4 g5 g6 g7
        have r0 := blk_cell J6.res 0
        have r1 := blk_cell J6.res 1
        have r2 := blk_cell J6.res 2
        have r3 := blk_cell J6.res 3
        have r4 := blk_cell J6.res 4
        have r5 := blk_cell J6.res 5
        have r6 := blk_cell J6.res 6
        have r7 := blk_cell J6.res 7
        simp only [List.getElem?_toArray, List.getElem?_cons_succ, List.getElem?_cons_zero] at r0 r1 r2 r3 r4 r5 r6 r7
        have g0 := blk_free J6.res 0
        have g1 := blk_free J6.res 1
        have g2 := blk_free J6.res 2
        have g3 := blk_free J6.res 3
        have g4 := blk_free J6.res 4
        have g5 := blk_free J6.res 5
        have g6 := blk_free J6.res 6
        have g7 := blk_free J6.res 7
        clear J6 q6
        go_wp2
        refine bodyPost_ret (v := .tuple #[.agg #[.int .i64 0, .int .i64 0, .int .i64 0, .int .i64 0, .int .i64 0, .int .i64 0, .int .i64 0, .int .i64 0], .int .i64 k, .int .i64 11]) (by rw [results_cell_tmp2 (fn := Tryd.f53) rfl]; go_simp) rfl ⟨rfl, ?_⟩
        exact gb_own (gb_own (gb_own (gb_own (gb_own (gb_own (gb_own (gb_own HJ6.out.gb (Nat.le_refl _) (gb_set _ _ _ _)) (Nat.le_refl _) (gb_set _ _ _ _)) (Nat.le_refl _) (gb_set _ _ _ _)) (Nat.le_refl _) (gb_set _ _ _ _)) (Nat.le_refl _) (gb_set _ _ _ _)) (Nat.le_refl _) (gb_set _ _ _ _)) (Nat.le_refl _) (gb_set _ _ _ _)) (Nat.le_refl _) (gb_set _ _ _ _)

end Go.Proofs.YtikjfmpdfeaooaaDoor.Ma

/- Layer 9: the document's Four, walked. -/
namespace Go.Proofs.YtikjfmpdfeaooaaDoor.Ma
open Go.ChangeShapes Go.WideShapes Go.ChangeAt Go.RowKit
open Go.Proofs.YtikjfmpdfeaooaaDoor.Le Go.Proofs.YtikjfmpdfeaooaaDoor.Sc
set_option linter.unusedVariables false

/-- The document's Find, of a mask. -/
def RFindIs (M width s n c : Int) : Prop := ∀ u, Calls Tryd.prog 65 #[.int .i64 M, .int .i64 width] u fun e w' => e = .returned (.tuple #[.int .i64 s, .int .i64 n, .int .i64 c]) ∧ u = w'

/-- What stops the document's loop at t. -/
def RStops (M : Nat → Int) (s n m : Nat → Nat) (width : Int) (t : Nat) (i c : Int) : Prop :=
  (t = 4 ∧ i = 0 ∧ c = 0) ∨
  (t < 4 ∧ i = t ∧ (c != 0) = true ∧ RFindIs (M t) width 0 0 c) ∨
  (t < 4 ∧ i = t ∧ c = 11 ∧ RFindIs (M t) width (s t) (n t) 0 ∧ M t = (m t : Nat) ∧ ∃ y, y < t ∧ bothB (m t) (m y) 32 = true ∧ ∀ j, j < y → bothB (m t) (m j) 32 = false)

theorem both_quiet (v w : Nat) (x : Bool) (W : World) (k : Nat) (h : bothB v w 32 = x) :
    Calls Tryd.prog 66 #[.int .i64 v, .int .i64 w] (W.drewN k) fun e w' => e = .returned (.bool x) ∧ w' = W.drewN k := by
  have := both_calls v w (W.drewN k)
  rw [h] at this
  exact this.mono (fun _ _ ⟨a, b⟩ => ⟨a, b.symm⟩)

set_option maxRecDepth 100000 in
set_option maxHeartbeats 4000000 in
theorem rfour_core (M : Nat → Int) (s n m : Nat → Nat) (width : Int) (t b : Nat) (r c : Int) (W : World) (ht : t ≤ 4)
    (hcell : ∀ k, k < 4 → W.cell? ⟨b, k, none⟩ = some (.int .i64 (M k)))
    (hM : ∀ k, k < t → M k = (m k : Nat))
    (hx : ∀ k, k < t → ∀ j, j < k → bothB (m k) (m j) 32 = false)
    (KF : ∀ k, k < t → RFindIs (M k) width (s k) (n k) 0) (hS : RStops M s n m width t r c) :
    Calls Tryd.prog 55 #[.slice (some ⟨b, 0, none⟩) 4 4, .int .i64 width] W
    fun e w' => e = .returned (.tuple #[.int .i64 r, .int .i64 c]) ∧ W.grownBy w' none := by
  have KF' := Lib.hid KF
  have HM := Lib.hid hM
  have HX := Lib.hid hx
  have HC := Lib.hid hcell
  have HS := Lib.hid hS
  clear KF hM hx hcell hS
  go_enter Tryd.func55, Tryd.ntmps55
  go_wp2_with fail
  go_loopg [6] 5 (fun q iv wr => ∃ (k : Nat), k ≤ t ∧ q = 5 - k ∧ iv = .int .i64 k ∧ W.grownBy wr none)
  case atStart => exact ⟨0, by omega, rfl, rfl, gb_refl _ _⟩
  case round =>
    obtain ⟨k, hk, rfl, rfl, G⟩ := hrel
    have HG := Lib.hid G
    clear G
    by_cases hkt : k < t
    · have h4 : k < 4 := by omega
      have c0 := HG.out.cell (HC.out k h4) (by simp)
      rw [HM.out k hkt] at c0
      have KFk := KF'.out k hkt wr
      rw [HM.out k hkt] at KFk
      obtain ⟨mk, hmk⟩ : ∃ y, m k = y := ⟨_, rfl⟩
      rw [hmk] at c0 KFk
      have HMK := Lib.hid hmk
      have KFh := Lib.hid KFk
      clear KFk hmk
      go_wp2_with fail
      refine KFh.out.mono ?_
      rintro e w' ⟨rfl, rfl⟩
      go_wp2_with fail
      go_loopg [10] 5 (fun q jv w2 => ∃ (j : Nat), j ≤ k ∧ q = 5 - j ∧ jv = .int .i64 j ∧ W.grownBy w2 none)
      case atStart => exact ⟨0, by omega, rfl, rfl, HG.out⟩
      case round =>
        obtain ⟨j, hj, rfl, rfl, G2⟩ := hrel
        have HG2 := Lib.hid G2
        clear G2 c0
        have c0 := HG2.out.cell (HC.out k h4) (by simp)
        rw [HM.out k hkt, HMK.out] at c0
        by_cases hjk : j < k
        · have c1 := HG2.out.cell (HC.out j (by omega)) (by simp)
          rw [HM.out j (by omega)] at c1
          have hb := HX.out k hkt j hjk
          rw [HMK.out] at hb
          obtain ⟨mj, hmj⟩ : ∃ y, m j = y := ⟨_, rfl⟩
          rw [hmj] at c1 hb
          have BQ := Lib.hid (fun u q => both_quiet mk mj false u q hb)
          clear hb hmj
          go_wp2_with fail
          go_quiet ((go_at_call 66; exact Calls.quiet_of_same (BQ.out _ _)))
          go_wp2
          go_roundg (5 - (j + 1))
          case measure => omega
          case rel => exact ⟨j + 1, by omega, rfl, by go_num, gb_trans HG2.out (gb_drewN _ _ _)⟩
        · obtain rfl : j = k := by omega
          go_wp2
          go_roundg (5 - (j + 1))
          case measure => omega
          case rel => exact ⟨j + 1, by omega, rfl, by go_num, HG2.out⟩
    · obtain rfl : k = t := by omega
      rcases HS.out with ⟨h4, hr, hc⟩ | ⟨h4, hr, hc, KE⟩ | ⟨h4, hr, hc, KE, hMt, y, hy, hyb, hyj⟩
      · subst h4 hr hc
        go_wp2
        go_ret2
        exact ⟨rfl, HG.out⟩
      · subst hr
        have c0 := HG.out.cell (HC.out k h4) (by simp)
        have KEk := KE wr
        obtain ⟨mk, hmk⟩ : ∃ y, M k = y := ⟨_, rfl⟩
        rw [hmk] at c0 KEk
        have KEh := Lib.hid KEk
        clear KE KEk hmk
        go_wp2_with fail
        refine KEh.out.mono ?_
        rintro e w' ⟨rfl, rfl⟩
        go_wp2
        go_ret2
        exact ⟨rfl, HG.out⟩
      · subst hr hc
        have c0 := HG.out.cell (HC.out k h4) (by simp)
        have KEk := KE wr
        rw [hMt] at c0 KEk
        obtain ⟨mk, hmk⟩ : ∃ y, m k = y := ⟨_, rfl⟩
        rw [hmk] at c0 KEk hyb
        simp only [hmk] at hyj
        have HMT := Lib.hid (hMt.trans (by rw [hmk]))
        have HYJ := Lib.hid hyj
        have HYB := Lib.hid hyb
        have KEh := Lib.hid KEk
        clear KE KEk hmk hMt hyb hyj
        go_wp2_with fail
        refine KEh.out.mono ?_
        rintro e w' ⟨rfl, rfl⟩
        go_wp2_with fail
        go_loopg [10] 5 (fun q jv w2 => ∃ (j : Nat), j ≤ y ∧ q = 5 - j ∧ jv = .int .i64 j ∧ W.grownBy w2 none)
        case atStart => exact ⟨0, by omega, rfl, rfl, HG.out⟩
        case round =>
          obtain ⟨j, hj, rfl, rfl, G2⟩ := hrel
          have HG2 := Lib.hid G2
          clear G2 c0
          have hjk : j < k := by omega
          have c0 := HG2.out.cell (HC.out k h4) (by simp)
          rw [HMT.out] at c0
          have c1 := HG2.out.cell (HC.out j (by omega)) (by simp)
          rw [HM.out j hjk] at c1
          by_cases hjy : j < y
          · have hb := HYJ.out j hjy
            obtain ⟨mj, hmj⟩ : ∃ y, m j = y := ⟨_, rfl⟩
            rw [hmj] at c1 hb
            have BQ := Lib.hid (fun u q => both_quiet mk mj false u q hb)
            clear hb hmj
            go_wp2_with fail
            go_quiet ((go_at_call 66; exact Calls.quiet_of_same (BQ.out _ _)))
            go_wp2
            go_roundg (5 - (j + 1))
            case measure => omega
            case rel => exact ⟨j + 1, by omega, rfl, by go_num, gb_trans HG2.out (gb_drewN _ _ _)⟩
          · obtain rfl : j = y := by omega
            have hb := HYB.out
            obtain ⟨mj, hmj⟩ : ∃ y, m j = y := ⟨_, rfl⟩
            rw [hmj] at c1 hb
            have BQ := Lib.hid (fun u q => both_quiet mk mj true u q hb)
            clear hb hmj
            go_wp2_with fail
            go_quiet ((go_at_call 66; exact Calls.quiet_of_same (BQ.out _ _)))
            go_wp2
            go_ret2
            exact ⟨rfl, gb_trans HG2.out (gb_drewN _ _ _)⟩

end Go.Proofs.YtikjfmpdfeaooaaDoor.Ma

/- Layer 9: MaskFours, walked. -/
namespace Go.Proofs.YtikjfmpdfeaooaaDoor.Ma
open Go.ChangeShapes Go.WideShapes Go.ChangeAt Go.RowKit
open Go.Proofs.YtikjfmpdfeaooaaDoor.Le Go.Proofs.YtikjfmpdfeaooaaDoor.Sc
set_option linter.unusedVariables false

theorem ahead_bit (m : Nat → Nat) (i : Nat) : ∀ k, bitN (ahead m k) i = 1 ↔ ∃ j, j < k ∧ bitN (m j) i = 1
  | 0 => by
    constructor
    · intro h
      have : bitN 0 i = 0 := by unfold bitN; simp
      exact absurd (show bitN 0 i = 1 from h) (by omega)
    · rintro ⟨j, hj, _⟩; omega
  | k + 1 => by
    have e : bitN (ahead m (k + 1)) i = 1 ↔ bitN (ahead m k) i = 1 ∨ bitN (m k) i = 1 := by
      rw [bitN_tb, bitN_tb, bitN_tb]
      show ((ahead m k ||| m k).testBit i).toNat = 1 ↔ _
      rw [Nat.testBit_or]
      cases (ahead m k).testBit i <;> cases (m k).testBit i <;> simp
    rw [e, ahead_bit m i k]
    constructor
    · rintro (⟨j, hj, h⟩ | h)
      · exact ⟨j, by omega, h⟩
      · exact ⟨k, by omega, h⟩
    · rintro ⟨j, hj, h⟩
      by_cases hk : j = k
      · subst hk; exact .inr h
      · exact .inl ⟨j, by omega, h⟩

theorem and_bit (v w i : Nat) : bitN (v &&& w) i = 1 ↔ bitN v i = 1 ∧ bitN w i = 1 := by
  rw [bitN_tb, bitN_tb, bitN_tb, Nat.testBit_and]
  cases v.testBit i <;> cases w.testBit i <;> simp

/-- A bit in common with those ahead is a bit in common with one of them. -/
theorem common_iff (m : Nat → Nat) (k : Nat) (hm : m k < 4294967296) : m k &&& ahead m k = 0 ↔ ∀ j, j < k → bothB (m k) (m j) 32 = false := by
  constructor
  · intro h j hj
    cases hb : bothB (m k) (m j) 32 with
    | false => rfl
    | true =>
      obtain ⟨i, hi, h1, h2⟩ := (bothB_iff _ _ 32).1 hb
      have h3 := (and_bit (m k) (ahead m k) i).2 ⟨h1, (ahead_bit m i k).2 ⟨j, hj, h2⟩⟩
      rw [h] at h3
      have : bitN 0 i = 0 := by unfold bitN; simp
      omega
  · intro h
    refine eq_of_bits fun i => ?_
    have h0 : bitN 0 i = 0 := by unfold bitN; simp
    rw [h0]
    have hl := bitN_lt (m k &&& ahead m k) i
    rcases Nat.lt_or_ge (bitN (m k &&& ahead m k) i) 1 with hz | hz
    · omega
    · exfalso
      obtain ⟨h1, h2⟩ := (and_bit (m k) (ahead m k) i).1 (by omega)
      obtain ⟨j, hj, h3⟩ := (ahead_bit m i k).1 h2
      have hi : i < 32 := by
        rcases Nat.lt_or_ge i 32 with h' | h'
        · exact h'
        · have := bit_high (W := 32) (by exact hm) h'
          omega
      have := (bothB_iff (m k) (m j) 32).2 ⟨i, hi, h1, h3⟩
      rw [h j hj] at this
      exact absurd this (by decide)

theorem first_of (P : Nat → Prop) : ∀ n, ∃ t, t ≤ n ∧ (∀ k, k < t → P k) ∧ (t = n ∨ (t < n ∧ ¬ P t))
  | 0 => ⟨0, by omega, fun k hk => by omega, .inl rfl⟩
  | n + 1 => by
    obtain ⟨t, ht, hp, h⟩ := first_of P n
    rcases h with rfl | ⟨h1, h2⟩
    · by_cases hP : P t
      · refine ⟨t + 1, by omega, fun k hk => ?_, .inl rfl⟩
        by_cases hkt : k = t
        · subst hkt; exact hP
        · exact hp k (by omega)
      · exact ⟨t, by omega, hp, .inr ⟨by omega, hP⟩⟩
    · exact ⟨t, by omega, hp, .inr ⟨by omega, h2⟩⟩

theorem okP_lt {s n : Nat} (h : okP s n) : maskW s n < 4294967296 := by
  unfold maskW
  rcases h with ⟨_, rfl⟩ | ⟨h1, h2⟩
  · rw [if_pos rfl]; decide
  · rw [if_neg (by omega)]; exact blk_lt32 h2

/-- Any number is a mask, or none, by the code as by the document. -/
theorem classify (x width : Int) : ∃ s n : Nat, okP s n ∧
    ((∃ c : Int, (c != 0) = true ∧ FindIs x width 0 0 c ∧ RFindIs x width 0 0 c) ∨
     (x = (maskW s n : Nat) ∧ FindIs x width s n 0 ∧ RFindIs x width s n 0)) := by
  by_cases hw : width = 16 ∨ width = 32
  · obtain ⟨N, hN, hw'⟩ : ∃ N : Nat, width = N ∧ (N = 16 ∨ N = 32) := by
      rcases hw with rfl | rfl
      · exact ⟨16, rfl, .inl rfl⟩
      · exact ⟨32, rfl, .inr rfl⟩
    subst hN
    by_cases hr : x < 0 ∨ pw N ≤ x
    · exact ⟨0, 0, .inl ⟨rfl, rfl⟩, .inl ⟨2, rfl, fun u _ _ => find_range x N u hw' hr, fun u => rfind_range x N u hw' hr⟩⟩
    · obtain ⟨m, rfl⟩ : ∃ m : Nat, x = m := ⟨x.toNat, by omega⟩
      have hm : (m : Int) < pw N := by omega
      have KF := fun u hT hlt => find_calls m N u hw' hm hlt hT
      have KR := fun u => rfind_calls m N u hw' hm
      by_cases hrun : 1 < runs m N
      · have e : findV m N = (0, 0, 6) := by unfold findV; rw [if_pos hrun]
        simp only [e] at KF KR
        exact ⟨0, 0, .inl ⟨rfl, rfl⟩, .inl ⟨6, rfl, fun u a b => KF u a b, KR⟩⟩
      · have e : findV m N = ((frm m N : Int), (cnt m N : Int), 0) := by unfold findV; rw [if_neg hrun]
        have hm2 : m < 2 ^ N := by
          have : (m : Int) < ((2 ^ N : Nat) : Int) := hm
          omega
        simp only [e] at KF KR
        rcases one_run hm2 (by omega) with ⟨a, b, c⟩ | ⟨a, b, c⟩
        · rw [b, c] at KF KR
          subst a
          exact ⟨0, 0, .inl ⟨rfl, rfl⟩, .inr ⟨rfl, fun u a b => KF u a b, KR⟩⟩
        · refine ⟨frm m N, cnt m N, .inr ⟨a, by omega⟩, .inr ⟨?_, fun u a b => KF u a b, KR⟩⟩
          unfold maskW
          rw [if_neg (by omega), ← c]
  · exact ⟨0, 0, .inl ⟨rfl, rfl⟩, .inl ⟨1, rfl, fun u _ _ => find_arg x width u (by omega) (by omega), fun u => rfind_arg x width u (by omega) (by omega)⟩⟩

/-- Four masks: what the code and the document do with them. -/
def FourIs (M : Nat → Int) (width : Int) (res : Array Value) (r c : Int) : Prop :=
  (∀ W, Tab W → 0 < W.heap.size → Calls Tryd.prog 53 #[.int .i64 (M 0), .int .i64 (M 1), .int .i64 (M 2), .int .i64 (M 3), .int .i64 width] W fun e w' => e = .returned (.tuple #[.agg res, .int .i64 r, .int .i64 c]) ∧ W.grownBy w' none) ∧
  (∀ b u, (∀ k, k < 4 → u.cell? ⟨b, k, none⟩ = some (.int .i64 (M k))) → Calls Tryd.prog 55 #[.slice (some ⟨b, 0, none⟩) 4 4, .int .i64 width] u fun e w' => e = .returned (.tuple #[.int .i64 r, .int .i64 c]) ∧ u.grownBy w' none)

theorem four_both (M : Nat → Int) (width : Int) :
    (∃ (t : Nat) (c : Int), t < 4 ∧ (c != 0) = true ∧ FourIs M width #[.int .i64 0, .int .i64 0, .int .i64 0, .int .i64 0, .int .i64 0, .int .i64 0, .int .i64 0, .int .i64 0] t c) ∨
    (∃ s n : Nat → Nat, (∀ k, k < 4 → okP (s k) (n k)) ∧ (∀ k, k < 4 → M k = (maskW (s k) (n k) : Nat)) ∧ FourIs M width #[.int .i64 (s 0 : Int), .int .i64 (n 0 : Int), .int .i64 (s 1 : Int), .int .i64 (n 1 : Int), .int .i64 (s 2 : Int), .int .i64 (n 2 : Int), .int .i64 (s 3 : Int), .int .i64 (n 3 : Int)] 0 0) := by
  obtain ⟨s, hs⟩ := Classical.axiomOfChoice (fun k => classify (M k) width)
  obtain ⟨n, hn⟩ := Classical.axiomOfChoice hs
  clear hs
  have hlt32 : ∀ k, maskW (s k) (n k) < 4294967296 := fun k => okP_lt (hn k).1
  obtain ⟨t, ht, hp, hstop⟩ := first_of (fun k => (M k = (maskW (s k) (n k) : Nat) ∧ FindIs (M k) width (s k) (n k) 0 ∧ RFindIs (M k) width (s k) (n k) 0) ∧ maskW (s k) (n k) &&& ahead (fun k => maskW (s k) (n k)) k = 0) 4
  have hM : ∀ k, k < t → M k = (maskW (s k) (n k) : Nat) := fun k hk => (hp k hk).1.1
  have hx : ∀ k, k < t → maskW (s k) (n k) &&& ahead (fun k => maskW (s k) (n k)) k = 0 := fun k hk => (hp k hk).2
  have hbo : ∀ k, k < t → ∀ j, j < k → bothB (maskW (s k) (n k)) (maskW (s j) (n j)) 32 = false := fun k hk => (common_iff (fun k => maskW (s k) (n k)) k (hlt32 k)).1 (hx k hk)
  have KF : ∀ k, k < t → FindIs (M k) width (s k) (n k) 0 := fun k hk => (hp k hk).1.2.1
  have KR : ∀ k, k < t → RFindIs (M k) width (s k) (n k) 0 := fun k hk => (hp k hk).1.2.2
  rcases hstop with rfl | ⟨ht4, hnot⟩
  · refine .inr ⟨s, n, fun k _ => (hn k).1, hM, ?_, ?_⟩
    · exact fun W hT hlt => four_core M s n (fun k => maskW (s k) (n k)) width 4 _ 0 0 W hlt hT (by omega) hM (fun k _ => hlt32 k) hx KF (.inl ⟨rfl, rfl, rfl, rfl⟩)
    · exact fun b u hc => rfour_core M s n (fun k => maskW (s k) (n k)) width 4 b 0 0 u (by omega) hc hM hbo KR (.inl ⟨rfl, rfl, rfl⟩)
  · by_cases hv : M t = (maskW (s t) (n t) : Nat) ∧ FindIs (M t) width (s t) (n t) 0 ∧ RFindIs (M t) width (s t) (n t) 0
    · have hne : maskW (s t) (n t) &&& ahead (fun k => maskW (s k) (n k)) t ≠ 0 := fun h => hnot ⟨hv, h⟩
      obtain ⟨y, hy, hyp, hys⟩ := first_of (fun j => bothB (maskW (s t) (n t)) (maskW (s j) (n j)) 32 = false) t
      have hyt : y < t ∧ bothB (maskW (s t) (n t)) (maskW (s y) (n y)) 32 = true := by
        rcases hys with rfl | ⟨h1, h2⟩
        · exact absurd ((common_iff (fun k => maskW (s k) (n k)) y (hlt32 y)).2 hyp) hne
        · exact ⟨h1, by simpa using h2⟩
      refine .inl ⟨t, 11, ht4, rfl, ?_, ?_⟩
      · exact fun W hT hlt => four_core M s n (fun k => maskW (s k) (n k)) width t _ t 11 W hlt hT (by omega) hM (fun k _ => hlt32 k) hx KF (.inr (.inr ⟨ht4, rfl, rfl, rfl, hv.1, hlt32 t, hne, hv.2.1⟩))
      · exact fun b u hc => rfour_core M s n (fun k => maskW (s k) (n k)) width t b t 11 u (by omega) hc hM hbo KR (.inr (.inr ⟨ht4, rfl, rfl, hv.2.2, hv.1, y, hyt.1, hyt.2, hyp⟩))
    · rcases (hn t).2 with ⟨c, hc, h1, h2⟩ | h
      · refine .inl ⟨t, c, ht4, hc, ?_, ?_⟩
        · exact fun W hT hlt => four_core M s n (fun k => maskW (s k) (n k)) width t _ t c W hlt hT (by omega) hM (fun k _ => hlt32 k) hx KF (.inr (.inl ⟨ht4, rfl, rfl, hc, h1⟩))
        · exact fun b u hcc => rfour_core M s n (fun k => maskW (s k) (n k)) width t b t c u (by omega) hcc hM hbo KR (.inr (.inl ⟨ht4, rfl, hc, h2⟩))
      · exact absurd h hv

end Go.Proofs.YtikjfmpdfeaooaaDoor.Ma
