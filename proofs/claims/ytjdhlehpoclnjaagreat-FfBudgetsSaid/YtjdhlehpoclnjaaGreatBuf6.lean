/- Package buf: a buffer is made. -/
import Derived.Test.YtjdhlehpoclnjaaGreatBuf5
namespace Go.Proofs.YtjdhlehpoclnjaaGreat.Bu
open Go.ChangeShapes Go.WideShapes Go.ChangeAt Go.RowKit
open Go.Proofs.YtjdhlehpoclnjaaGreat.Le
set_option linter.unusedVariables false

theorem row8 : (Tryz.prog.info? 5).map (fun i => (i.zero, i.size, i.bytes)) = some (some (.int .u8 0), 1, 1) := by kernel_rfl

theorem made8 (n : Nat) : madeCells (Value.int .u8 0).cells (n * 1) = bys (rep 0 n) := by
  apply Array.toList_inj.1
  simp [madeCells, bys, Lib.byteCells, rep, Value.cells]
  rw [List.eq_replicate_iff]
  refine ⟨by simp, ?_⟩
  intro v hv
  obtain ⟨j, _, rfl⟩ := List.mem_map.1 hv
  rw [Nat.mod_one]
  rfl

theorem make8 (n : Nat) (hn : n ≤ 2147483647) (w : World) :
    (Instr.makeSlice 25 (.int .i64 (n : Int)) (.int .i64 (n : Int))).run Tryz.prog w = .ok (.slice (some ⟨w.heap.size, 0, none⟩) n n) (w.alloc (.cells (bys (rep 0 n)) 5)) := by
  obtain ⟨i0, hi, hz0, hz1, hz2⟩ := info_parts row8
  have h := run_make (P := Tryz.prog) w 25 5 i0 (.int .u8 0) und8 hi hz0 .i64 .i64 n n (by omega) (by omega) (by rw [hz2]; omega) (by omega)
  rw [hz1] at h
  simp only [Int.toNat_natCast] at h
  rw [made8] at h
  exact h

theorem make_arg (p : Option Addr) (n : Int) (w : World) (h : p = none ∨ n < 0) :
    Calls Tryz.prog 71 #[.pointer p, .int .i64 n] w fun e w' => e = .returned (.tuple #[.pointer none, .int .i64 1]) ∧ w = w' := by
  cases p with
  | none =>
    clear h
    go_enter Tryz.func71, Tryz.ntmps71
    go_wp2
    go_ret2
    exact ⟨rfl, rfl⟩
  | some a =>
    have hn : n < 0 := by simpa using h
    clear h
    go_enter Tryz.func71, Tryz.ntmps71
    go_wp2
    go_ret2
    exact ⟨rfl, rfl⟩

theorem make_spent (l : Nat) (x : St) (n : Int) (w : World) (h : Led l x.ls w) (ok : x.Ok) (n0 : 0 ≤ n) (hr : (x.take n).2 = false) :
    Calls Tryz.prog 71 #[.pointer (some ⟨l, 0, none⟩), .int .i64 n] w
      fun e w' => e = .returned (.tuple #[.pointer none, .int .i64 4]) ∧ Led l (x.take n).1.ls w' ∧ w.grownBy w' (some l) := by
  have K := take_calls l x n w h ok
  rw [hr] at K
  have K' := Lib.hid K
  clear K h ok hr
  go_enter Tryz.func71, Tryz.ntmps71
  go_wp2_with fail
  refine K'.out.mono ?_
  rintro e w2 ⟨rfl, l2, g2⟩
  have L2 := Lib.hid l2
  have G2 := Lib.hid g2
  clear l2 g2
  go_wp2
  go_ret2
  exact ⟨rfl, L2.out, G2.out⟩

theorem make_yes (l : Nat) (x : St) (n : Nat) (w : World) (h : Led l x.ls w) (ok : x.Ok) (hn : n ≤ 2147483647) (hr : (x.take n).2 = true) :
    Calls Tryz.prog 71 #[.pointer (some ⟨l, 0, none⟩), .int .i64 n] w
      fun e w' => ∃ b g, e = .returned (.tuple #[.pointer (some ⟨b, 0, none⟩), .int .i64 0]) ∧ (BOpen b l g (rep 0 n) w' ∧ Led l (x.take n).1.ls w') ∧ w.grownBy w' (some l) ∧ w.heap.size ≤ b ∧ w.heap.size ≤ g := by
  have K := take_calls l x n w h ok
  rw [hr] at K
  have K' := Lib.hid K
  have hlt := h.lt
  have hmk := make8 n hn
  obtain ⟨C, hC⟩ : ∃ C, bys (rep 0 n) = C := ⟨_, rfl⟩
  have HC := Lib.hid hC
  rw [hC] at hmk
  clear K h ok hr hC
  go_enter Tryz.func71, Tryz.ntmps71
  go_wp2_with fail
  refine K'.out.mono ?_
  rintro e w2 ⟨rfl, l2, g2⟩
  have hs2 := g2.size
  have L2 := Lib.hid l2
  have G2 := Lib.hid g2
  clear l2 g2
  go_wp2
  go_ret2
  refine ⟨w2.heap.size + 1, w2.heap.size, rfl, ⟨⟨?_, ?_, by rw [rep_size]; exact hn, by omega, by omega, by omega⟩, ?_⟩, ?_, by omega, by omega⟩
  · have h := blk_at (w := w2.alloc (.cells C 5)) (o := .cells #[.pointer (some ⟨l, 0, none⟩), .slice (some ⟨w2.heap.size, 0, none⟩) n n, .bool true, .int .u32 0, .int .i32 0, .int .u32 0] 161)
    rw [size_alloc] at h
    rw [rep_size]
    exact h
  · rw [HC.out]
    exact blk_al blk_at _
  · exact (L2.out.alloc _).alloc _
  · exact gb_trans (gb_trans G2.out (World.grownBy_alloc _ _ _)) (World.grownBy_alloc _ _ _)

end Go.Proofs.YtjdhlehpoclnjaaGreat.Bu
