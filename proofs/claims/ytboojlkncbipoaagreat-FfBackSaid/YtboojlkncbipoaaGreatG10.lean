/- Texts of one kind, one behind the other: Sca7. -/
import Derived.Test.YtboojlkncbipoaaGreatG05
import Derived.Test.YtboojlkncbipoaaGreatG09
/- Package scale: a scaler's answers. -/
namespace Go.Proofs.YtboojlkncbipoaaGreat.Sc
open Go.ChangeShapes Go.WideShapes Go.ChangeAt Go.RowKit Go.Proofs.YtboojlkncbipoaaGreat.Le
set_option linter.unusedVariables false

set_option maxRecDepth 100000 in
/-- The Once's slow way, not yet done and its lock free. -/
theorem sslow_calls (b m : Nat) (t : Value) (w : World) (h : Sca b m 0 0 t w) (m1 : 1 ≤ m) (m2 : m ≤ 65535) :
    Calls Tryz.prog 204 #[.pointer (some ⟨b, 1, none⟩), .func (.func 195) #[.pointer (some ⟨b, 0, none⟩)] #[]] w
      fun e w' => e = .returned (.tuple #[]) ∧ ∃ g, Sca b m 1 0 (.slice (some ⟨g, 0, none⟩) (m + 1) (m + 1)) w' ∧ TabK g m (m + 1) w' ∧ w.grownBy w' (some b) ∧ w.heap.size ≤ g := by
  have hlt := h.lt
  have L1 : Sca b m 0 1 t (w.setCell ⟨b, 2, none⟩ (.int .i32 1)) := Sca.set h 2 _ rfl
  have g1 := gb_set w b 2 (.int .i32 1)
  have c0 : w.cell? ⟨b, 2, none⟩ = some (.int .i32 0) := blk_cell h 2
  have c1 : (w.setCell ⟨b, 2, none⟩ (.int .i32 1)).cell? ⟨b, 1, none⟩ = some (.int .u32 0) := blk_cell L1 1
  have K1 := Lib.hid (lock_free ⟨b, 2, none⟩ w c0 (blk_free h 2))
  have K2 := Lib.hid (loadB ⟨b, 1, none⟩ 0 _ c1 rfl)
  have K3 := Lib.hid (lay_calls b m 0 1 t _ L1 m1 m2)
  have hnot : ∀ (x : Bool) (w : World), (Op.unary .not (.bool x)).run Tryz.prog w = .ok (.bool (!x)) w := fun _ _ => rfl
  have HLT := Lib.hid hlt
  clear c0 c1 h L1 hlt
  have G1 := Lib.hid g1
  clear g1
  go_enter_defers Tryz.func204, Tryz.ntmps204
  go_wp2_with (first | (go_at_call 214; refine K1.out.mono ?_; rintro e w' ⟨rfl, rfl⟩) | (go_at_call 63; refine K2.out.mono ?_; rintro e w' ⟨rfl, rfl⟩))
  refine K3.out.mono ?_
  rintro e w2 ⟨rfl, g, L2, T2, g2, hg⟩
  have L2' := Lib.hid L2
  have T2' := Lib.hid T2
  have g2' := Lib.hid g2
  have HG := Lib.hid hg
  clear L2 T2 g2 hg
  go_wp2
  refine leaves_cons (f := 186) (args := #[.pointer (some ⟨b, 1, none⟩), .bool true]) (by simp) (by simp [go_sem]) ?_
  refine (storeB_d ⟨b, 1, none⟩ (.int .u32 0) .returning _ rfl (blk_cell L2'.out 1) (blk_free L2'.out 1)).mono ?_
  rintro e u' w'' ⟨rfl, rfl, rfl⟩
  have L3 : Sca b m 1 1 (.slice (some ⟨g, 0, none⟩) (m + 1) (m + 1)) (w2.drew.setCell ⟨b, 1, none⟩ (.int .u32 1)) := Sca.set (w := w2.drew) L2'.out 1 _ rfl
  refine leaves_cons (f := 215) (args := #[.pointer (some ⟨b, 2, none⟩)]) (by simp [settle]) (by simp [go_sem]) ?_
  refine (unlock_d ⟨b, 2, none⟩ _ _ (blk_cell L3 2) (blk_free L3 2)).mono ?_
  rintro e u' w'' ⟨rfl, rfl, rfl⟩
  have L4 : Sca b m 1 0 (.slice (some ⟨g, 0, none⟩) (m + 1) (m + 1)) ((w2.drew.setCell ⟨b, 1, none⟩ (.int .u32 1)).setCell ⟨b, 2, none⟩ (.int .i32 0)) := Sca.set L3 2 _ rfl
  have gS := gb_trans (gb_trans (gb_drew w2 (some b)) (gb_set _ b 1 (.int .u32 1))) (gb_set _ b 2 (.int .i32 0))
  have g4 := gb_trans (gb_trans G1.out g2'.out) gS
  have e1 : (w.setCell ⟨b, 2, none⟩ (.int .i32 1)).heap.size = w.heap.size := by show (w.heap.modify b _).size = _; simp
  have hge : w.heap.size ≤ g := by rw [← e1]; exact HG.out
  have hlt := HLT.out
  have T4 := T2'.out.grown gS (by simp; omega)
  simp [Leaves, settle, results, Tryz.results204]
  exact ⟨g, L4, T4, g4, hge⟩

/-- Do, not yet done. -/
theorem sdo_first (b m : Nat) (t : Value) (w : World) (h : Sca b m 0 0 t w) (m1 : 1 ≤ m) (m2 : m ≤ 65535) :
    Calls Tryz.prog 181 #[.pointer (some ⟨b, 1, none⟩), .func (.func 195) #[.pointer (some ⟨b, 0, none⟩)] #[]] w
      fun e w' => e = .returned (.tuple #[]) ∧ ∃ g, Sca b m 1 0 (.slice (some ⟨g, 0, none⟩) (m + 1) (m + 1)) w' ∧ TabK g m (m + 1) w' ∧ w.grownBy w' (some b) ∧ w.heap.size ≤ g := by
  have K1 := Lib.hid (sslow_calls b m t w h m1 m2)
  have c1 : w.cell? ⟨b, 1, none⟩ = some (.int .u32 0) := blk_cell h 1
  have K2 := Lib.hid (loadB ⟨b, 1, none⟩ 0 _ c1 rfl)
  have hnot : ∀ (x : Bool) (w : World), (Op.unary .not (.bool x)).run Tryz.prog w = .ok (.bool (!x)) w := fun _ _ => rfl
  clear h c1
  go_enter Tryz.func181, Tryz.ntmps181
  go_wp2_with (go_at_call 63; refine K2.out.mono ?_; rintro e w' ⟨rfl, rfl⟩)
  refine K1.out.mono ?_
  rintro e w2 ⟨rfl, R⟩
  have R' := Lib.hid R
  clear R
  go_wp2
  go_end0
  exact ⟨rfl, R'.out⟩

/-- Do, done. -/
theorem sdo_again (b m : Nat) (t f : Value) (w : World) (h : Sca b m 1 0 t w) :
    Calls Tryz.prog 181 #[.pointer (some ⟨b, 1, none⟩), f] w fun e w' => e = .returned (.tuple #[]) ∧ w = w' := by
  have c1 : w.cell? ⟨b, 1, none⟩ = some (.int .u32 1) := blk_cell h 1
  have K2 := Lib.hid (loadB ⟨b, 1, none⟩ 1 _ c1 rfl)
  have hnot : ∀ (x : Bool) (w : World), (Op.unary .not (.bool x)).run Tryz.prog w = .ok (.bool (!x)) w := fun _ _ => rfl
  clear h c1
  go_enter Tryz.func181, Tryz.ntmps181
  go_wp2_with (go_at_call 63; refine K2.out.mono ?_; rintro e w' ⟨rfl, rfl⟩)
  go_end0
  exact ⟨rfl, rfl⟩

/-- A scaler, asked or not. -/
def Ss (b m : Nat) (w : World) : Prop := Sca b m 0 0 (.slice none 0 0) w ∨ ∃ g, Sca b m 1 0 (.slice (some ⟨g, 0, none⟩) (m + 1) (m + 1)) w ∧ TabK g m (m + 1) w
theorem Ss.lt {b m : Nat} {w : World} (h : Ss b m w) : b < w.heap.size := by
  rcases h with h | ⟨g, h, _⟩
  · exact h.lt
  · exact h.lt
theorem Ss.c0 {b m : Nat} {w : World} (h : Ss b m w) : w.cell? ⟨b, 0, none⟩ = some (.int .i64 m) := by
  rcases h with h | ⟨g, h, _⟩
  · exact blk_cell h 0
  · exact blk_cell h 0
theorem Ss.grown {b m : Nat} {w w' : World} (h : Ss b m w) (g : w.grownBy w' none) : Ss b m w' := by
  rcases h with h | ⟨g', h, t⟩
  · exact .inl (h.grown g (by simp))
  · exact .inr ⟨g', h.grown g (by simp), t.grown g (by simp)⟩

/-- Do, whenever. -/
theorem sdo_calls (b m : Nat) (w : World) (h : Ss b m w) (m1 : 1 ≤ m) (m2 : m ≤ 65535) :
    Calls Tryz.prog 181 #[.pointer (some ⟨b, 1, none⟩), .func (.func 195) #[.pointer (some ⟨b, 0, none⟩)] #[]] w
      fun e w' => e = .returned (.tuple #[]) ∧ ∃ g, Sca b m 1 0 (.slice (some ⟨g, 0, none⟩) (m + 1) (m + 1)) w' ∧ TabK g m (m + 1) w' ∧ w.grownBy w' (some b) := by
  rcases h with h | ⟨g, h, t⟩
  · refine (sdo_first b m _ w h m1 m2).mono ?_
    rintro e w' ⟨rfl, g, a, b, c, d⟩
    exact ⟨rfl, g, a, b, c⟩
  · refine (sdo_again b m _ _ w h).mono ?_
    rintro e w' ⟨rfl, rfl⟩
    exact ⟨rfl, g, h, t, gb_refl _ _⟩

theorem of_no (b m : Nat) (v : Int) (w : World) (h : Ss b m w) (hv : v < 0 ∨ (m : Int) < v) :
    Calls Tryz.prog 160 #[.pointer (some ⟨b, 0, none⟩), .int .i64 v] w fun e w' => e = .returned (.tuple #[.int .u8 0, .bool false]) ∧ w = w' := by
  have c0 := h.c0
  clear h
  by_cases h0 : v < 0
  · clear hv
    go_enter Tryz.func160, Tryz.ntmps160
    go_wp2
    go_ret2
    exact ⟨rfl, rfl⟩
  · have h1 : (m : Int) < v := by omega
    clear hv
    go_enter Tryz.func160, Tryz.ntmps160
    go_wp2
    go_ret2
    exact ⟨rfl, rfl⟩

set_option maxRecDepth 100000 in
theorem of_yes (b m v : Nat) (w : World) (h : Ss b m w) (m1 : 1 ≤ m) (m2 : m ≤ 65535) (hv : v ≤ m) :
    Calls Tryz.prog 160 #[.pointer (some ⟨b, 0, none⟩), .int .i64 v] w fun e w' => e = .returned (.tuple #[.int .u8 (near v m), .bool true]) ∧ Ss b m w' ∧ w.grownBy w' (some b) := by
  have c0 := h.c0
  have hmf : ∀ (fn : Fn) (first cap : Array Value) (w : World), (Instr.makeFunc fn first cap).run Tryz.prog w = .ok (.func fn first cap) w := fun _ _ _ _ => rfl
  have K := Lib.hid (sdo_calls b m w h m1 m2)
  have hvm : (v : Int) ≤ m := by omega
  obtain ⟨y, hy⟩ : ∃ y, near v m = y := ⟨_, rfl⟩
  have HY := Lib.hid hy
  rw [hy]
  clear h hy
  go_enter Tryz.func160, Tryz.ntmps160
  go_wp2_with fail
  refine K.out.mono ?_
  rintro e w2 ⟨rfl, g, S, T, G⟩
  have HS := Lib.hid S
  have HT := Lib.hid T
  have HG := Lib.hid G
  have d4 : w2.cell? ⟨b, 4, none⟩ = some (.slice (some ⟨g, 0, none⟩) (m + 1) (m + 1)) := blk_cell S 4
  have dg : w2.cell? ⟨g, v, none⟩ = some (.int .u8 y) := by
    obtain ⟨C, C1, C2, C3⟩ := T
    rw [blk_cell C1 v, C3 v (by omega), HY.out]
  clear S T G
  go_wp2
  go_ret2
  exact ⟨rfl, .inr ⟨g, HS.out, HT.out⟩, HG.out⟩

theorem snew_bad (m : Int) (w : World) (h : m < 1 ∨ 65535 < m) : Calls Tryz.prog 113 #[.int .i64 m] w fun e w' => e = .returned (.tuple #[.pointer none, .int .i64 2]) ∧ w = w' := by
  by_cases h0 : m < 1
  · clear h
    go_enter Tryz.func113, Tryz.ntmps113
    go_wp2
    go_ret2
    exact ⟨rfl, rfl⟩
  · have h1 : 65535 < m := by omega
    clear h
    go_enter Tryz.func113, Tryz.ntmps113
    go_wp2
    go_ret2
    exact ⟨rfl, rfl⟩

theorem snew_yes (m : Nat) (w : World) (m1 : 1 ≤ m) (m2 : m ≤ 65535) :
    Calls Tryz.prog 113 #[.int .i64 m] w fun e w' => ∃ b, e = .returned (.tuple #[.pointer (some ⟨b, 0, none⟩), .int .i64 0]) ∧ Ss b m w' ∧ w.grownBy w' none ∧ w.heap.size ≤ b := by
  go_enter Tryz.func113, Tryz.ntmps113
  go_wp2
  go_ret2
  exact ⟨w.heap.size, rfl, .inl blk_at, World.grownBy_alloc _ _ _, Nat.le_refl _⟩

end Go.Proofs.YtboojlkncbipoaaGreat.Sc
