/- Texts of one kind, one behind the other: Sq1. -/
import Derived.Test.YtboojlkncbipoaaGreatG07
import Derived.Test.YtboojlkncbipoaaGreatG10
/- A scaler whose table lies behind a bound. -/
namespace Go.Proofs.YtboojlkncbipoaaGreat.Sh
open Go.ChangeShapes Go.WideShapes Go.ChangeAt Go.RowKit
open Go.Proofs.YtboojlkncbipoaaGreat.Le Go.Proofs.YtboojlkncbipoaaGreat.Sc
set_option linter.unusedVariables false

/-- A scaler, asked or not; its table, if it has one, lies at B or behind. -/
def Sq (B b m : Nat) (w : World) : Prop := B ≤ w.heap.size ∧ (Sca b m 0 0 (.slice none 0 0) w ∨ ∃ g, B ≤ g ∧ Sca b m 1 0 (.slice (some ⟨g, 0, none⟩) (m + 1) (m + 1)) w ∧ TabK g m (m + 1) w)
theorem Sq.lt {B b m : Nat} {w : World} (h : Sq B b m w) : b < w.heap.size := by
  rcases h with ⟨_, h | ⟨g, _, h, _⟩⟩
  · exact h.lt
  · exact h.lt
theorem Sq.c0 {B b m : Nat} {w : World} (h : Sq B b m w) : w.cell? ⟨b, 0, none⟩ = some (.int .i64 m) := by
  rcases h with ⟨_, h | ⟨g, _, h, _⟩⟩
  · exact blk_cell h 0
  · exact blk_cell h 0
theorem Sq.turned {B b m : Nat} {w w' : World} {S : List Nat} (h : Sq B b m w) (t : Tn w w' S) (hb : b ∉ S) (hS : ∀ k, k ∈ S → k < B) : Sq B b m w' := by
  obtain ⟨hB, h | ⟨g, hg, h, C, C1, C2, C3⟩⟩ := h
  · exact ⟨Nat.le_trans hB t.size, .inl ((t.block b h.lt hb).trans h)⟩
  · refine ⟨Nat.le_trans hB t.size, .inr ⟨g, hg, (t.block b h.lt hb).trans h, C, (t.block g (blk_lt C1) (fun hk => ?_)).trans C1, C2, C3⟩⟩
    have := hS g hk
    omega
/-- A block that is not the table is turned. -/
theorem sq_far {B b m k : Nat} {w w' : World} {cs : Array Value} {t : TypeId} {fr : Nat × Nat} (h : Sq B b m w) (hk : w.heap[k]? = some (.cells cs t fr)) (hc : cs.size ≠ m + 1) (hb : b ≠ k) (T : Tn w w' [k]) : Sq B b m w' := by
  obtain ⟨hB, h | ⟨g, hg, h, C, C1, C2, C3⟩⟩ := h
  · exact ⟨Nat.le_trans hB T.size, .inl ((T.block b h.lt (by simpa using hb)).trans h)⟩
  · refine ⟨Nat.le_trans hB T.size, .inr ⟨g, hg, (T.block b h.lt (by simpa using hb)).trans h, C, (T.block g (blk_lt C1) (fun hk2 => ?_)).trans C1, C2, C3⟩⟩
    obtain rfl : g = k := by simpa using hk2
    rw [C1] at hk
    cases hk
    exact hc C2
theorem sq_do (B b m : Nat) (w : World) (h : Sq B b m w) (m1 : 1 ≤ m) (m2 : m ≤ 65535) :
    Calls Tryz.prog 181 #[.pointer (some ⟨b, 1, none⟩), .func (.func 195) #[.pointer (some ⟨b, 0, none⟩)] #[]] w
      fun e w' => e = .returned (.tuple #[]) ∧ ∃ g, B ≤ g ∧ Sca b m 1 0 (.slice (some ⟨g, 0, none⟩) (m + 1) (m + 1)) w' ∧ TabK g m (m + 1) w' ∧ w.grownBy w' (some b) := by
  rcases h with ⟨hB, h | ⟨g, hg, h, t⟩⟩
  · refine (sdo_first b m _ w h m1 m2).mono ?_
    rintro e w' ⟨rfl, g, a, b, c, d⟩
    exact ⟨rfl, g, Nat.le_trans hB d, a, b, c⟩
  · refine (sdo_again b m _ _ w h).mono ?_
    rintro e w' ⟨rfl, rfl⟩
    exact ⟨rfl, g, hg, h, t, gb_refl _ _⟩
theorem sq_no (B b m : Nat) (v : Int) (w : World) (h : Sq B b m w) (hv : v < 0 ∨ (m : Int) < v) :
    Calls Tryz.prog 160 #[.pointer (some ⟨b, 0, none⟩), .int .i64 v] w fun e w' => e = .returned (.tuple #[.int .u8 0, .bool false]) ∧ w = w' := by
  have c0 := h.c0
  clear h
  by_cases h0 : v < 0
  · clear hv
    go_enter Tryz.func160, Tryz.ntmps160
    go_wp2
    go_ret2
    exact ⟨rfl, rfl⟩
  · have h1 : (m : Int) < v := by omega
    clear hv
    go_enter Tryz.func160, Tryz.ntmps160
    go_wp2
    go_ret2
    exact ⟨rfl, rfl⟩
set_option maxRecDepth 100000 in
theorem sq_yes (B b m v : Nat) (w : World) (h : Sq B b m w) (m1 : 1 ≤ m) (m2 : m ≤ 65535) (hv : v ≤ m) :
    Calls Tryz.prog 160 #[.pointer (some ⟨b, 0, none⟩), .int .i64 v] w fun e w' => e = .returned (.tuple #[.int .u8 (near v m), .bool true]) ∧ Sq B b m w' ∧ w.grownBy w' (some b) := by
  have c0 := h.c0
  have hmf : ∀ (fn : Fn) (first cap : Array Value) (w : World), (Instr.makeFunc fn first cap).run Tryz.prog w = .ok (.func fn first cap) w := fun _ _ _ _ => rfl
  have K := Lib.hid (sq_do B b m w h m1 m2)
  have hvm : (v : Int) ≤ m := by omega
  have hB := h.1
  obtain ⟨y, hy⟩ : ∃ y, near v m = y := ⟨_, rfl⟩
  have HY := Lib.hid hy
  rw [hy]
  clear h hy
  go_enter Tryz.func160, Tryz.ntmps160
  go_wp2_with fail
  refine K.out.mono ?_
  rintro e w2 ⟨rfl, g, hg, S, T, G⟩
  have HS := Lib.hid S
  have HT := Lib.hid T
  have HG := Lib.hid G
  have hs := G.size
  have d4 : w2.cell? ⟨b, 4, none⟩ = some (.slice (some ⟨g, 0, none⟩) (m + 1) (m + 1)) := blk_cell S 4
  have dg : w2.cell? ⟨g, v, none⟩ = some (.int .u8 y) := by
    obtain ⟨C, C1, C2, C3⟩ := T
    rw [blk_cell C1 v, C3 v (by omega), HY.out]
  clear S T G
  go_wp2
  go_ret2
  exact ⟨rfl, ⟨Nat.le_trans hB hs, .inr ⟨g, hg, HS.out, HT.out⟩⟩, HG.out⟩


theorem sq_new (m : Nat) (B : Nat) (w : World) (hB : B ≤ w.heap.size) (m1 : 1 ≤ m) (m2 : m ≤ 65535) :
    Calls Tryz.prog 113 #[.int .i64 m] w fun e w' => ∃ b, e = .returned (.tuple #[.pointer (some ⟨b, 0, none⟩), .int .i64 0]) ∧ Sq B b m w' ∧ w.grownBy w' none ∧ w.heap.size ≤ b := by
  go_enter Tryz.func113, Tryz.ntmps113
  go_wp2
  go_ret2
  exact ⟨w.heap.size, rfl, ⟨by rw [size_alloc]; omega, .inl blk_at⟩, World.grownBy_alloc _ _ _, Nat.le_refl _⟩

end Go.Proofs.YtboojlkncbipoaaGreat.Sh
