/- Texts of one kind, one behind the other: Sca6. -/
import Derived.Deep.LoopGhost
import Derived.Laws.MakeOwn
import Derived.Lib.BufferWrite
import Derived.Lib.SlBytesRow
import Derived.RegionCalls
import Derived.Test.YtboojlkncbipoaaGreatG08
/- Package scale: the scaler in memory; its table is laid by a Once. -/
namespace Go.Proofs.YtboojlkncbipoaaGreat.Sc
open Go.ChangeShapes Go.WideShapes Go.ChangeAt Go.RowKit Go.Proofs.YtboojlkncbipoaaGreat.Le
set_option linter.unusedVariables false

/-- The cells of a scaler. -/
def SC (m d k : Int) (t : Value) : Array Value := #[.int .i64 m, .int .u32 d, .int .i32 k, .int .u32 0, t]
/-- Block b is a scaler. -/
def Sca (b : Nat) (m d k : Int) (t : Value) (w : World) : Prop := w.heap[b]? = some (.cells (SC m d k t) 217 (0, 0))
theorem Sca.lt {b : Nat} {m d k : Int} {t : Value} {w : World} (h : Sca b m d k t w) : b < w.heap.size := blk_lt h
theorem Sca.grown {b : Nat} {m d k : Int} {t : Value} {w w' : World} {r : Option Nat} (h : Sca b m d k t w) (g : w.grownBy w' r) (hb : some b ≠ r) : Sca b m d k t w' := (g.block b h.lt hb).trans h
theorem Sca.set {b : Nat} {m d k : Int} {t : Value} {w : World} (h : Sca b m d k t w) {m' d' k' : Int} {t' : Value} (o : Nat) (v : Value) (e : (SC m d k t).setIfInBounds o v = SC m' d' k' t') : Sca b m' d' k' t' (w.setCell ⟨b, o, none⟩ v) := by
  have := blk_set h o v
  rw [e] at this
  exact this

/-- Block g is the table, as far as k. -/
def TabK (g m k : Nat) (w : World) : Prop := ∃ C : Array Value, w.heap[g]? = some (.cells C 5 (0, 0)) ∧ C.size = m + 1 ∧ ∀ i, i < k → C[i]? = some (.int .u8 (near i m))
theorem TabK.lt {g m k : Nat} {w : World} (h : TabK g m k w) : g < w.heap.size := by obtain ⟨C, h, _⟩ := h; exact blk_lt h
theorem TabK.grown {g m k : Nat} {w w' : World} {r : Option Nat} (h : TabK g m k w) (k' : w.grownBy w' r) (hb : some g ≠ r) : TabK g m k w' := by
  have hlt := h.lt
  obtain ⟨C, h1, h2, h3⟩ := h
  exact ⟨C, (k'.block g hlt hb).trans h1, h2, h3⟩

theorem gb_new {a b c : World} {k : Nat} {r : Option Nat} (h : a.grownBy b r) (hk : a.heap.size ≤ k) (g : b.grownBy c (some k)) : a.grownBy c r :=
  ⟨g.os.trans h.os, g.tape.trans h.tape, g.output.trans h.output, Nat.le_trans h.size g.size,
    fun i hi hr => (g.block i (Nat.lt_of_lt_of_le hi h.size) (by simp; omega)).trans (h.block i hi hr)⟩

theorem und8 : Tryz.prog.underlying 25 = some (.slice 5) := by kernel_rfl
theorem row8 : (Tryz.prog.info? 5).map (fun i => (i.zero, i.size, i.bytes)) = some (some (.int .u8 0), 1, 1) := by kernel_rfl

theorem makeT (n : Nat) (hn : n ≤ 65536) (w : World) :
    ∃ Z : Array Value, Z.size = n ∧ ∀ w : World, (Instr.makeSlice 25 (.int .i64 (n : Int)) (.int .i64 (n : Int))).run Tryz.prog w = .ok (.slice (some ⟨w.heap.size, 0, none⟩) n n) (w.alloc (.cells Z 5)) := by
  obtain ⟨i0, hi, hz0, hz1, hz2⟩ := info_parts row8
  refine ⟨madeCells (Value.int .u8 0).cells (n * 1), by simp [madeCells], fun w => ?_⟩
  have h := run_make (P := Tryz.prog) w 25 5 i0 (.int .u8 0) und8 hi hz0 .i64 .i64 n n (by omega) (by omega) (by rw [hz2]; omega) (by omega)
  rw [hz1] at h
  simp only [Int.toNat_natCast] at h
  exact h

theorem tab_step {b m j g : Nat} {d k y : Int} {t : Value} {w wr : World} {C : Array Value} (I : Sca b m d k t wr ∧ TabK w.heap.size m j wr ∧ w.grownBy wr (some b)) (hg : w.heap.size = g)
    (C1 : wr.heap[g]? = some (.cells C 5 (0, 0))) (C2 : C.size = m + 1) (C3 : ∀ i, i < j → C[i]? = some (.int .u8 (near i m))) (hy : near j m = y) (hj : j < m + 1) :
    Sca b m d k t ((wr.setCell ⟨g, j, none⟩ (.int .u8 y)).drew) ∧ TabK w.heap.size m (j + 1) ((wr.setCell ⟨g, j, none⟩ (.int .u8 y)).drew) ∧ w.grownBy ((wr.setCell ⟨g, j, none⟩ (.int .u8 y)).drew) (some b) := by
  obtain ⟨I1, I2, I3⟩ := I
  have hbg : some b ≠ some g := by
    intro e
    cases e
    have h1 := I1
    unfold Sca at h1
    rw [C1] at h1
    simp at h1
  refine ⟨show Sca b m d k t (wr.setCell ⟨g, j, none⟩ (.int .u8 y)) from I1.grown (gb_set wr g j (.int .u8 y)) hbg, ⟨C.setIfInBounds j (.int .u8 y), ?_, by simp [C2], ?_⟩, gb_trans (gb_new I3 (Nat.le_of_eq hg) (gb_set _ _ _ _)) (gb_drew _ _)⟩
  · rw [hg]
    exact blk_set C1 j _
  · intro i hi
    by_cases he : i = j
    · subst he
      simp [C2, hj, hy]
    · rw [Array.getElem?_setIfInBounds_ne (by omega)]
      exact C3 i (by omega)

set_option maxRecDepth 100000 in
theorem lay_calls (b m : Nat) (d k : Int) (t : Value) (w : World) (h : Sca b m d k t w) (m1 : 1 ≤ m) (m2 : m ≤ 65535) :
    Calls Tryz.prog 195 #[.pointer (some ⟨b, 0, none⟩)] w
      fun e w' => e = .returned (.tuple #[]) ∧ ∃ g, Sca b m d k (.slice (some ⟨g, 0, none⟩) (m + 1) (m + 1)) w' ∧ TabK g m (m + 1) w' ∧ w.grownBy w' (some b) ∧ w.heap.size ≤ g := by
  have hb := h.lt
  obtain ⟨Z, hZ, hmk0⟩ := makeT (m + 1) (by omega) w
  have hmk : ∀ w : World, (Instr.makeSlice 25 (.int .i64 ((m : Int) + 1)) (.int .i64 ((m : Int) + 1))).run Tryz.prog w = .ok (.slice (some ⟨w.heap.size, 0, none⟩) (m + 1) (m + 1)) (w.alloc (.cells Z 5)) := by
    intro w
    have := hmk0 w
    rw [show ((m + 1 : Nat) : Int) = (m : Int) + 1 from by omega] at this
    exact this
  have c0 : w.cell? ⟨b, 0, none⟩ = some (.int .i64 m) := blk_cell h 0
  have f4 : w.frozen? ⟨b, 4, none⟩ = false := blk_free h 4
  have c4 : w.cell? ⟨b, 4, none⟩ = some t := blk_cell h 4
  have hA : Sca b m d k t (w.alloc (.cells Z 5)) := h.grown (World.grownBy_alloc _ _ none) (by simp)
  have c0' : (w.alloc (.cells Z 5)).cell? ⟨b, 0, none⟩ = some (.int .i64 m) := blk_cell hA 0
  have c4' : (w.alloc (.cells Z 5)).cell? ⟨b, 4, none⟩ = some t := blk_cell hA 4
  have f4' : (w.alloc (.cells Z 5)).frozen? ⟨b, 4, none⟩ = false := blk_free hA 4
  obtain ⟨T, hT⟩ : ∃ T, Value.slice (some ⟨w.heap.size, 0, none⟩) (m + 1) (m + 1) = T := ⟨_, rfl⟩
  have hS : Sca b m d k T (w.setCell ⟨b, 4, none⟩ T) := Sca.set h 4 T rfl
  have e1 : (w.setCell ⟨b, 4, none⟩ T).heap.size = w.heap.size := by show (w.heap.modify b _).size = _; simp
  have S1 := Lib.hid (show Sca b m d k T ((w.setCell ⟨b, 4, none⟩ T).alloc (.cells Z 5)) from hS.grown (World.grownBy_alloc _ _ none) (by simp))
  have T1 := Lib.hid (show TabK w.heap.size m 0 ((w.setCell ⟨b, 4, none⟩ T).alloc (.cells Z 5)) from ⟨Z, by rw [← e1]; exact blk_at, hZ, fun i hi => by omega⟩)
  have G1 := Lib.hid (show w.grownBy ((w.setCell ⟨b, 4, none⟩ T).alloc (.cells Z 5)) (some b) from gb_trans (gb_set _ _ _ _) (World.grownBy_alloc _ _ _))
  subst hT
  clear hS e1
  clear h hmk0 hA hZ
  go_enter Tryz.func195, Tryz.ntmps195
  go_wp2
  go_loopg [17] (m + 1) (fun q iv wr => ∃ j : Nat, j ≤ m + 1 ∧ q = m + 1 - j ∧ iv = .int .i64 j ∧ (Sca b m d k (.slice (some ⟨w.heap.size, 0, none⟩) (m + 1) (m + 1)) wr ∧ TabK w.heap.size m j wr ∧ w.grownBy wr (some b)))
  case atStart => exact ⟨0, Nat.zero_le _, rfl, rfl, S1.out, T1.out, G1.out⟩
  case round =>
    obtain ⟨j, hj, rfl, rfl, I⟩ := hrel
    have HI := Lib.hid I
    clear I S1 T1 G1 c0 c0' f4 f4' c4 c4' hmk
    by_cases hlt : j < m + 1
    · obtain ⟨I1, I2, I3⟩ := HI.out
      have d0 : wr.cell? ⟨b, 0, none⟩ = some (.int .i64 m) := blk_cell I1 0
      have d4 : wr.cell? ⟨b, 4, none⟩ = some (.slice (some ⟨w.heap.size, 0, none⟩) (m + 1) (m + 1)) := blk_cell I1 4
      obtain ⟨C, C1, C2, C3⟩ := I2
      obtain ⟨g, hg⟩ : ∃ g, w.heap.size = g := ⟨_, rfl⟩
      rw [hg] at d4 C1
      have dg : ∃ x, wr.cell? ⟨g, j, none⟩ = some x := by rw [blk_cell C1 j]; exact ⟨C[j]'(by omega), by simp [C2, hlt]⟩
      obtain ⟨x, dg⟩ := dg
      have fg : wr.frozen? ⟨g, j, none⟩ = false := blk_free C1 j
      have HM := Lib.hid (fun w => max_yes j m w (may_yes (by omega) (by omega) (by omega) (by omega)))
      have HC1 := Lib.hid C1
      have HC2 := Lib.hid C2
      have HC3 := Lib.hid C3
      have HG := Lib.hid hg
      have hm2 : (j : Int) ≤ m := by omega
      obtain ⟨y, hy⟩ : ∃ y, near j m = y := ⟨_, rfl⟩
      have HY := Lib.hid hy
      simp only [hy] at HM
      clear C1 C2 C3 hg I1 I3 hy
      go_wp2
      go_region_with (go_at_call 211; refine (HM.out _).mono ?_; rintro e w' ⟨rfl, rfl⟩)
      all_goals
        go_wp2
        go_roundg (m + 1 - (j + 1))
        case measure => omega
        case rel => exact ⟨j + 1, by omega, rfl, by go_num, tab_step HI.out HG.out HC1.out HC2.out HC3.out HY.out hlt⟩
    · obtain rfl : j = m + 1 := by omega
      go_wp2
      go_end0
      exact ⟨rfl, _, HI.out.1, HI.out.2.1, HI.out.2.2, Nat.le_refl _⟩

end Go.Proofs.YtboojlkncbipoaaGreat.Sc
