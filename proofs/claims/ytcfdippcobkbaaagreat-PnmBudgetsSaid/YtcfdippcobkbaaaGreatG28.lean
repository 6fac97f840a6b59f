/- Texts of one kind, one behind the other: Sca6, Sca7. -/
import Derived.Deep.LoopGhost
import Derived.Laws.MakeOwn
import Derived.Lib.BufferWrite
import Derived.Lib.SlBytesRow
import Derived.RegionCalls
import Derived.Test.YtcfdippcobkbaaaGreatG04
import Derived.Test.YtcfdippcobkbaaaGreatG27
/- Package scale: the scaler in memory; its table is laid by a Once. -/
namespace Go.Proofs.YtcfdippcobkbaaaGreat.Sc
open Go.ChangeShapes Go.WideShapes Go.ChangeAt Go.RowKit Go.Proofs.YtcfdippcobkbaaaGreat.Le
set_option linter.unusedVariables false

/-- The cells of a scaler. -/
def SC (m d k : Int) (t : Value) : Array Value := #[.int .i64 m, .int .u32 d, .int .i32 k, .int .u32 0, t]
/-- Block b is a scaler. -/
def Sca (b : Nat) (m d k : Int) (t : Value) (w : World) : Prop := w.heap[b]? = some (.cells (SC m d k t) 188 (0, 0))
theorem Sca.lt {b : Nat} {m d k : Int} {t : Value} {w : World} (h : Sca b m d k t w) : b < w.heap.size := blk_lt h
theorem Sca.grown {b : Nat} {m d k : Int} {t : Value} {w w' : World} {r : Option Nat} (h : Sca b m d k t w) (g : w.grownBy w' r) (hb : some b ≠ r) : Sca b m d k t w' := (g.block b h.lt hb).trans h
theorem Sca.set {b : Nat} {m d k : Int} {t : Value} {w : World} (h : Sca b m d k t w) {m' d' k' : Int} {t' : Value} (o : Nat) (v : Value) (e : (SC m d k t).setIfInBounds o v = SC m' d' k' t') : Sca b m' d' k' t' (w.setCell ⟨b, o, none⟩ v) := by
  have := blk_set h o v
  rw [e] at this
  exact this

/-- Block g is the table, as far as k. -/
def TabK (g m k : Nat) (w : World) : Prop := ∃ C : Array Value, w.heap[g]? = some (.cells C 5 (0, 0)) ∧ C.size = m + 1 ∧ ∀ i, i < k → C[i]? = some (.int .u8 (near i m))
theorem TabK.lt {g m k : Nat} {w : World} (h : TabK g m k w) : g < w.heap.size := by obtain ⟨C, h, _⟩ := h; exact blk_lt h
theorem TabK.grown {g m k : Nat} {w w' : World} {r : Option Nat} (h : TabK g m k w) (k' : w.grownBy w' r) (hb : some g ≠ r) : TabK g m k w' := by
  have hlt := h.lt
  obtain ⟨C, h1, h2, h3⟩ := h
  exact ⟨C, (k'.block g hlt hb).trans h1, h2, h3⟩

theorem gb_new {a b c : World} {k : Nat} {r : Option Nat} (h : a.grownBy b r) (hk : a.heap.size ≤ k) (g : b.grownBy c (some k)) : a.grownBy c r :=
  ⟨g.os.trans h.os, g.tape.trans h.tape, g.output.trans h.output, Nat.le_trans h.size g.size,
    fun i hi hr => (g.block i (Nat.lt_of_lt_of_le hi h.size) (by simp; omega)).trans (h.block i hi hr)⟩

theorem und8 : Tryz.prog.underlying 30 = some (.slice 5) := by kernel_rfl
theorem row8 : (Tryz.prog.info? 5).map (fun i => (i.zero, i.size, i.bytes)) = some (some (.int .u8 0), 1, 1) := by kernel_rfl

theorem makeT (n : Nat) (hn : n ≤ 65536) (w : World) :
    ∃ Z : Array Value, Z.size = n ∧ ∀ w : World, (Instr.makeSlice 30 (.int .i64 (n : Int)) (.int .i64 (n : Int))).run Tryz.prog w = .ok (.slice (some ⟨w.heap.size, 0, none⟩) n n) (w.alloc (.cells Z 5)) := by
  obtain ⟨i0, hi, hz0, hz1, hz2⟩ := info_parts row8
  refine ⟨madeCells (Value.int .u8 0).cells (n * 1), by simp [madeCells], fun w => ?_⟩
  have h := run_make (P := Tryz.prog) w 30 5 i0 (.int .u8 0) und8 hi hz0 .i64 .i64 n n (by omega) (by omega) (by rw [hz2]; omega) (by omega)
  rw [hz1] at h
  simp only [Int.toNat_natCast] at h
  exact h

theorem tab_step {b m j g : Nat} {d k y : Int} {t : Value} {w wr : World} {C : Array Value} (I : Sca b m d k t wr ∧ TabK w.heap.size m j wr ∧ w.grownBy wr (some b)) (hg : w.heap.size = g)
    (C1 : wr.heap[g]? = some (.cells C 5 (0, 0))) (C2 : C.size = m + 1) (C3 : ∀ i, i < j → C[i]? = some (.int .u8 (near i m))) (hy : near j m = y) (hj : j < m + 1) :
    Sca b m d k t ((wr.setCell ⟨g, j, none⟩ (.int .u8 y)).drew) ∧ TabK w.heap.size m (j + 1) ((wr.setCell ⟨g, j, none⟩ (.int .u8 y)).drew) ∧ w.grownBy ((wr.setCell ⟨g, j, none⟩ (.int .u8 y)).drew) (some b) := by
  obtain ⟨I1, I2, I3⟩ := I
  have hbg : some b ≠ some g := by
    intro e
    cases e
    have h1 := I1
    unfold Sca at h1
    rw [C1] at h1
    simp at h1
  refine ⟨show Sca b m d k t (wr.setCell ⟨g, j, none⟩ (.int .u8 y)) from I1.grown (gb_set wr g j (.int .u8 y)) hbg, ⟨C.setIfInBounds j (.int .u8 y), ?_, by simp [C2], ?_⟩, gb_trans (gb_new I3 (Nat.le_of_eq hg) (gb_set _ _ _ _)) (gb_drew _ _)⟩
  · rw [hg]
    exact blk_set C1 j _
  · intro i hi
    by_cases he : i = j
    · subst he
      simp [C2, hj, hy]
    · rw [Array.getElem?_setIfInBounds_ne (by omega)]
      exact C3 i (by omega)

set_option maxRecDepth 100000 in
theorem lay_calls (b m : Nat) (d k : Int) (t : Value) (w : World) (h : Sca b m d k t w) (m1 : 1 ≤ m) (m2 : m ≤ 65535) :
    Calls Tryz.prog 153 #[.pointer (some ⟨b, 0, none⟩)] w
      fun e w' => e = .returned (.tuple #[]) ∧ ∃ g, Sca b m d k (.slice (some ⟨g, 0, none⟩) (m + 1) (m + 1)) w' ∧ TabK g m (m + 1) w' ∧ w.grownBy w' (some b) ∧ w.heap.size ≤ g := by
  have hb := h.lt
  obtain ⟨Z, hZ, hmk0⟩ := makeT (m + 1) (by omega) w
  have hmk : ∀ w : World, (Instr.makeSlice 30 (.int .i64 ((m : Int) + 1)) (.int .i64 ((m : Int) + 1))).run Tryz.prog w = .ok (.slice (some ⟨w.heap.size, 0, none⟩) (m + 1) (m + 1)) (w.alloc (.cells Z 5)) := by
    intro w
    have := hmk0 w
    rw [show ((m + 1 : Nat) : Int) = (m : Int) + 1 from by omega] at this
    exact this
  have c0 : w.cell? ⟨b, 0, none⟩ = some (.int .i64 m) := blk_cell h 0
  have f4 : w.frozen? ⟨b, 4, none⟩ = false := blk_free h 4
  have c4 : w.cell? ⟨b, 4, none⟩ = some t := blk_cell h 4
  have hA : Sca b m d k t (w.alloc (.cells Z 5)) := h.grown (World.grownBy_alloc _ _ none) (by simp)
  have c0' : (w.alloc (.cells Z 5)).cell? ⟨b, 0, none⟩ = some (.int .i64 m) := blk_cell hA 0
  have c4' : (w.alloc (.cells Z 5)).cell? ⟨b, 4, none⟩ = some t := blk_cell hA 4
  have f4' : (w.alloc (.cells Z 5)).frozen? ⟨b, 4, none⟩ = false := blk_free hA 4
  obtain ⟨T, hT⟩ : ∃ T, Value.slice (some ⟨w.heap.size, 0, none⟩) (m + 1) (m + 1) = T := ⟨_, rfl⟩
  have hS : Sca b m d k T (w.setCell ⟨b, 4, none⟩ T) := Sca.set h 4 T rfl
  have e1 : (w.setCell ⟨b, 4, none⟩ T).heap.size = w.heap.size := by show (w.heap.modify b _).size = _; simp
  have S1 := Lib.hid (show Sca b m d k T ((w.setCell ⟨b, 4, none⟩ T).alloc (.cells Z 5)) from hS.grown (World.grownBy_alloc _ _ none) (by simp))
  have T1 := Lib.hid (show TabK w.heap.size m 0 ((w.setCell ⟨b, 4, none⟩ T).alloc (.cells Z 5)) from ⟨Z, by rw [← e1]; exact blk_at, hZ, fun i hi => by omega⟩)
  have G1 := Lib.hid (show w.grownBy ((w.setCell ⟨b, 4, none⟩ T).alloc (.cells Z 5)) (some b) from gb_trans (gb_set _ _ _ _) (World.grownBy_alloc _ _ _))
  subst hT
  clear hS e1
  clear h hmk0 hA hZ
  go_enter Tryz.func153, Tryz.ntmps153
  go_wp2
  go_loopg [17] (m + 1) (fun q iv wr => ∃ j : Nat, j ≤ m + 1 ∧ q = m + 1 - j ∧ iv = .int .i64 j ∧ (Sca b m d k (.slice (some ⟨w.heap.size, 0, none⟩) (m + 1) (m + 1)) wr ∧ TabK w.heap.size m j wr ∧ w.grownBy wr (some b)))
  case atStart => exact ⟨0, Nat.zero_le _, rfl, rfl, S1.out, T1.out, G1.out⟩
  case round =>
    obtain ⟨j, hj, rfl, rfl, I⟩ := hrel
    have HI := Lib.hid I
    clear I S1 T1 G1 c0 c0' f4 f4' c4 c4' hmk
    by_cases hlt : j < m + 1
    · obtain ⟨I1, I2, I3⟩ := HI.out
      have d0 : wr.cell? ⟨b, 0, none⟩ = some (.int .i64 m) := blk_cell I1 0
      have d4 : wr.cell? ⟨b, 4, none⟩ = some (.slice (some ⟨w.heap.size, 0, none⟩) (m + 1) (m + 1)) := blk_cell I1 4
      obtain ⟨C, C1, C2, C3⟩ := I2
      obtain ⟨g, hg⟩ : ∃ g, w.heap.size = g := ⟨_, rfl⟩
      rw [hg] at d4 C1
      have dg : ∃ x, wr.cell? ⟨g, j, none⟩ = some x := by rw [blk_cell C1 j]; exact ⟨C[j]'(by omega), by simp [C2, hlt]⟩
      obtain ⟨x, dg⟩ := dg
      have fg : wr.frozen? ⟨g, j, none⟩ = false := blk_free C1 j
      have HM := Lib.hid (fun w => max_yes j m w (may_yes (by omega) (by omega) (by omega) (by omega)))
      have HC1 := Lib.hid C1
      have HC2 := Lib.hid C2
      have HC3 := Lib.hid C3
      have HG := Lib.hid hg
      have hm2 : (j : Int) ≤ m := by omega
      obtain ⟨y, hy⟩ : ∃ y, near j m = y := ⟨_, rfl⟩
      have HY := Lib.hid hy
      simp only [hy] at HM
      clear C1 C2 C3 hg I1 I3 hy
      go_wp2
      go_region_with (go_at_call 142; refine (HM.out _).mono ?_; rintro e w' ⟨rfl, rfl⟩)
      all_goals
        go_wp2
        go_roundg (m + 1 - (j + 1))
        case measure => omega
        case rel => exact ⟨j + 1, by omega, rfl, by go_num, tab_step HI.out HG.out HC1.out HC2.out HC3.out HY.out hlt⟩
    · obtain rfl : j = m + 1 := by omega
      go_wp2
      go_end0
      exact ⟨rfl, _, HI.out.1, HI.out.2.1, HI.out.2.2, Nat.le_refl _⟩

end Go.Proofs.YtcfdippcobkbaaaGreat.Sc

/- Package scale: a scaler's answers. -/
namespace Go.Proofs.YtcfdippcobkbaaaGreat.Sc
open Go.ChangeShapes Go.WideShapes Go.ChangeAt Go.RowKit Go.Proofs.YtcfdippcobkbaaaGreat.Le
set_option linter.unusedVariables false

set_option maxRecDepth 100000 in
/-- The Once's slow way, not yet done and its lock free. -/
theorem sslow_calls (b m : Nat) (t : Value) (w : World) (h : Sca b m 0 0 t w) (m1 : 1 ≤ m) (m2 : m ≤ 65535) :
    Calls Tryz.prog 136 #[.pointer (some ⟨b, 1, none⟩), .func (.func 153) #[.pointer (some ⟨b, 0, none⟩)] #[]] w
      fun e w' => e = .returned (.tuple #[]) ∧ ∃ g, Sca b m 1 0 (.slice (some ⟨g, 0, none⟩) (m + 1) (m + 1)) w' ∧ TabK g m (m + 1) w' ∧ w.grownBy w' (some b) ∧ w.heap.size ≤ g := by
  have hlt := h.lt
  have L1 : Sca b m 0 1 t (w.setCell ⟨b, 2, none⟩ (.int .i32 1)) := Sca.set h 2 _ rfl
  have g1 := gb_set w b 2 (.int .i32 1)
  have c0 : w.cell? ⟨b, 2, none⟩ = some (.int .i32 0) := blk_cell h 2
  have c1 : (w.setCell ⟨b, 2, none⟩ (.int .i32 1)).cell? ⟨b, 1, none⟩ = some (.int .u32 0) := blk_cell L1 1
  have K1 := Lib.hid (lock_free ⟨b, 2, none⟩ w c0 (blk_free h 2))
  have K2 := Lib.hid (loadB ⟨b, 1, none⟩ 0 _ c1 rfl)
  have K3 := Lib.hid (lay_calls b m 0 1 t _ L1 m1 m2)
  have hnot : ∀ (x : Bool) (w : World), (Op.unary .not (.bool x)).run Tryz.prog w = .ok (.bool (!x)) w := fun _ _ => rfl
  have HLT := Lib.hid hlt
  clear c0 c1 h L1 hlt
  have G1 := Lib.hid g1
  clear g1
  go_enter_defers Tryz.func136, Tryz.ntmps136
  go_wp2_with (first | (go_at_call 147; refine K1.out.mono ?_; rintro e w' ⟨rfl, rfl⟩) | (go_at_call 42; refine K2.out.mono ?_; rintro e w' ⟨rfl, rfl⟩))
  refine K3.out.mono ?_
  rintro e w2 ⟨rfl, g, L2, T2, g2, hg⟩
  have L2' := Lib.hid L2
  have T2' := Lib.hid T2
  have g2' := Lib.hid g2
  have HG := Lib.hid hg
  clear L2 T2 g2 hg
  go_wp2
  refine leaves_cons (f := 114) (args := #[.pointer (some ⟨b, 1, none⟩), .bool true]) (by simp) (by simp [go_sem]) ?_
  refine (storeB_d ⟨b, 1, none⟩ (.int .u32 0) .returning _ rfl (blk_cell L2'.out 1) (blk_free L2'.out 1)).mono ?_
  rintro e u' w'' ⟨rfl, rfl, rfl⟩
  have L3 : Sca b m 1 1 (.slice (some ⟨g, 0, none⟩) (m + 1) (m + 1)) (w2.drew.setCell ⟨b, 1, none⟩ (.int .u32 1)) := Sca.set (w := w2.drew) L2'.out 1 _ rfl
  refine leaves_cons (f := 148) (args := #[.pointer (some ⟨b, 2, none⟩)]) (by simp [settle]) (by simp [go_sem]) ?_
  refine (unlock_d ⟨b, 2, none⟩ _ _ (blk_cell L3 2) (blk_free L3 2)).mono ?_
  rintro e u' w'' ⟨rfl, rfl, rfl⟩
  have L4 : Sca b m 1 0 (.slice (some ⟨g, 0, none⟩) (m + 1) (m + 1)) ((w2.drew.setCell ⟨b, 1, none⟩ (.int .u32 1)).setCell ⟨b, 2, none⟩ (.int .i32 0)) := Sca.set L3 2 _ rfl
  have gS := gb_trans (gb_trans (gb_drew w2 (some b)) (gb_set _ b 1 (.int .u32 1))) (gb_set _ b 2 (.int .i32 0))
  have g4 := gb_trans (gb_trans G1.out g2'.out) gS
  have e1 : (w.setCell ⟨b, 2, none⟩ (.int .i32 1)).heap.size = w.heap.size := by show (w.heap.modify b _).size = _; simp
  have hge : w.heap.size ≤ g := by rw [← e1]; exact HG.out
  have hlt := HLT.out
  have T4 := T2'.out.grown gS (by simp; omega)
  simp [Leaves, settle, results, Tryz.results136]
  exact ⟨g, L4, T4, g4, hge⟩

/-- Do, not yet done. -/
theorem sdo_first (b m : Nat) (t : Value) (w : World) (h : Sca b m 0 0 t w) (m1 : 1 ≤ m) (m2 : m ≤ 65535) :
    Calls Tryz.prog 112 #[.pointer (some ⟨b, 1, none⟩), .func (.func 153) #[.pointer (some ⟨b, 0, none⟩)] #[]] w
      fun e w' => e = .returned (.tuple #[]) ∧ ∃ g, Sca b m 1 0 (.slice (some ⟨g, 0, none⟩) (m + 1) (m + 1)) w' ∧ TabK g m (m + 1) w' ∧ w.grownBy w' (some b) ∧ w.heap.size ≤ g := by
  have K1 := Lib.hid (sslow_calls b m t w h m1 m2)
  have c1 : w.cell? ⟨b, 1, none⟩ = some (.int .u32 0) := blk_cell h 1
  have K2 := Lib.hid (loadB ⟨b, 1, none⟩ 0 _ c1 rfl)
  have hnot : ∀ (x : Bool) (w : World), (Op.unary .not (.bool x)).run Tryz.prog w = .ok (.bool (!x)) w := fun _ _ => rfl
  clear h c1
  go_enter Tryz.func112, Tryz.ntmps112
  go_wp2_with (go_at_call 42; refine K2.out.mono ?_; rintro e w' ⟨rfl, rfl⟩)
  refine K1.out.mono ?_
  rintro e w2 ⟨rfl, R⟩
  have R' := Lib.hid R
  clear R
  go_wp2
  go_end0
  exact ⟨rfl, R'.out⟩

/-- Do, done. -/
theorem sdo_again (b m : Nat) (t f : Value) (w : World) (h : Sca b m 1 0 t w) :
    Calls Tryz.prog 112 #[.pointer (some ⟨b, 1, none⟩), f] w fun e w' => e = .returned (.tuple #[]) ∧ w = w' := by
  have c1 : w.cell? ⟨b, 1, none⟩ = some (.int .u32 1) := blk_cell h 1
  have K2 := Lib.hid (loadB ⟨b, 1, none⟩ 1 _ c1 rfl)
  have hnot : ∀ (x : Bool) (w : World), (Op.unary .not (.bool x)).run Tryz.prog w = .ok (.bool (!x)) w := fun _ _ => rfl
  clear h c1
  go_enter Tryz.func112, Tryz.ntmps112
  go_wp2_with (go_at_call 42; refine K2.out.mono ?_; rintro e w' ⟨rfl, rfl⟩)
  go_end0
  exact ⟨rfl, rfl⟩

/-- A scaler, asked or not. -/
def Ss (b m : Nat) (w : World) : Prop := Sca b m 0 0 (.slice none 0 0) w ∨ ∃ g, Sca b m 1 0 (.slice (some ⟨g, 0, none⟩) (m + 1) (m + 1)) w ∧ TabK g m (m + 1) w
theorem Ss.lt {b m : Nat} {w : World} (h : Ss b m w) : b < w.heap.size := by
  rcases h with h | ⟨g, h, _⟩
  · exact h.lt
  · exact h.lt
theorem Ss.c0 {b m : Nat} {w : World} (h : Ss b m w) : w.cell? ⟨b, 0, none⟩ = some (.int .i64 m) := by
  rcases h with h | ⟨g, h, _⟩
  · exact blk_cell h 0
  · exact blk_cell h 0
theorem Ss.grown {b m : Nat} {w w' : World} (h : Ss b m w) (g : w.grownBy w' none) : Ss b m w' := by
  rcases h with h | ⟨g', h, t⟩
  · exact .inl (h.grown g (by simp))
  · exact .inr ⟨g', h.grown g (by simp), t.grown g (by simp)⟩

/-- Do, whenever. -/
theorem sdo_calls (b m : Nat) (w : World) (h : Ss b m w) (m1 : 1 ≤ m) (m2 : m ≤ 65535) :
    Calls Tryz.prog 112 #[.pointer (some ⟨b, 1, none⟩), .func (.func 153) #[.pointer (some ⟨b, 0, none⟩)] #[]] w
      fun e w' => e = .returned (.tuple #[]) ∧ ∃ g, Sca b m 1 0 (.slice (some ⟨g, 0, none⟩) (m + 1) (m + 1)) w' ∧ TabK g m (m + 1) w' ∧ w.grownBy w' (some b) := by
  rcases h with h | ⟨g, h, t⟩
  · refine (sdo_first b m _ w h m1 m2).mono ?_
    rintro e w' ⟨rfl, g, a, b, c, d⟩
    exact ⟨rfl, g, a, b, c⟩
  · refine (sdo_again b m _ _ w h).mono ?_
    rintro e w' ⟨rfl, rfl⟩
    exact ⟨rfl, g, h, t, gb_refl _ _⟩

theorem of_no (b m : Nat) (v : Int) (w : World) (h : Ss b m w) (hv : v < 0 ∨ (m : Int) < v) :
    Calls Tryz.prog 145 #[.pointer (some ⟨b, 0, none⟩), .int .i64 v] w fun e w' => e = .returned (.tuple #[.int .u8 0, .bool false]) ∧ w = w' := by
  have c0 := h.c0
  clear h
  by_cases h0 : v < 0
  · clear hv
    go_enter Tryz.func145, Tryz.ntmps145
    go_wp2
    go_ret2
    exact ⟨rfl, rfl⟩
  · have h1 : (m : Int) < v := by omega
    clear hv
    go_enter Tryz.func145, Tryz.ntmps145
    go_wp2
    go_ret2
    exact ⟨rfl, rfl⟩

set_option maxRecDepth 100000 in
theorem of_yes (b m v : Nat) (w : World) (h : Ss b m w) (m1 : 1 ≤ m) (m2 : m ≤ 65535) (hv : v ≤ m) :
    Calls Tryz.prog 145 #[.pointer (some ⟨b, 0, none⟩), .int .i64 v] w fun e w' => e = .returned (.tuple #[.int .u8 (near v m), .bool true]) ∧ Ss b m w' ∧ w.grownBy w' (some b) := by
  have c0 := h.c0
  have hmf : ∀ (fn : Fn) (first cap : Array Value) (w : World), (Instr.makeFunc fn first cap).run Tryz.prog w = .ok (.func fn first cap) w := fun _ _ _ _ => rfl
  have K := Lib.hid (sdo_calls b m w h m1 m2)
  have hvm : (v : Int) ≤ m := by omega
  obtain ⟨y, hy⟩ : ∃ y, near v m = y := ⟨_, rfl⟩
  have HY := Lib.hid hy
  rw [hy]
  clear h hy
  go_enter Tryz.func145, Tryz.ntmps145
  go_wp2_with fail
  refine K.out.mono ?_
  rintro e w2 ⟨rfl, g, S, T, G⟩
  have HS := Lib.hid S
  have HT := Lib.hid T
  have HG := Lib.hid G
  have d4 : w2.cell? ⟨b, 4, none⟩ = some (.slice (some ⟨g, 0, none⟩) (m + 1) (m + 1)) := blk_cell S 4
  have dg : w2.cell? ⟨g, v, none⟩ = some (.int .u8 y) := by
    obtain ⟨C, C1, C2, C3⟩ := T
    rw [blk_cell C1 v, C3 v (by omega), HY.out]
  clear S T G
  go_wp2
  go_ret2
  exact ⟨rfl, .inr ⟨g, HS.out, HT.out⟩, HG.out⟩

theorem snew_bad (m : Int) (w : World) (h : m < 1 ∨ 65535 < m) : Calls Tryz.prog 102 #[.int .i64 m] w fun e w' => e = .returned (.tuple #[.pointer none, .int .i64 2]) ∧ w = w' := by
  by_cases h0 : m < 1
  · clear h
    go_enter Tryz.func102, Tryz.ntmps102
    go_wp2
    go_ret2
    exact ⟨rfl, rfl⟩
  · have h1 : 65535 < m := by omega
    clear h
    go_enter Tryz.func102, Tryz.ntmps102
    go_wp2
    go_ret2
    exact ⟨rfl, rfl⟩

theorem snew_yes (m : Nat) (w : World) (m1 : 1 ≤ m) (m2 : m ≤ 65535) :
    Calls Tryz.prog 102 #[.int .i64 m] w fun e w' => ∃ b, e = .returned (.tuple #[.pointer (some ⟨b, 0, none⟩), .int .i64 0]) ∧ Ss b m w' ∧ w.grownBy w' none ∧ w.heap.size ≤ b := by
  go_enter Tryz.func102, Tryz.ntmps102
  go_wp2
  go_ret2
  exact ⟨w.heap.size, rfl, .inl blk_at, World.grownBy_alloc _ _ _, Nat.le_refl _⟩

end Go.Proofs.YtcfdippcobkbaaaGreat.Sc
