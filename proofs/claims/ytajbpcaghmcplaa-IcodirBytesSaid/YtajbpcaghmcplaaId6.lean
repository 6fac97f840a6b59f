/- Layer 24: the document's entries (written by wip/gen/id6.py). -/
import Derived.Test.YtajbpcaghmcplaaId3
namespace Go.Proofs.Ytajbpcaghmcplaa.Id
open Go.ChangeShapes Go.WideShapes Go.ChangeAt Go.RowKit
open Go.Proofs.Ytajbpcaghmcplaa.Le Go.Proofs.Ytajbpcaghmcplaa.Sr Go.Proofs.Ytajbpcaghmcplaa.Dh
set_option linter.unusedVariables false

theorem rside_calls (c : Nat) (hc : c < 256) (W : World) : Calls Try.prog 29 #[.int .u8 (c : Nat)] W fun e w' => e = .returned (.int .i64 (sdI c : Nat)) ∧ W = w' := by
  by_cases h : c = 0
  · subst h
    go_enter Try.func29, Try.ntmps29
    go_wp2
    go_ret
    exact ⟨rfl, rfl⟩
  · rw [show sdI c = c from if_neg h]
    have h1 : ((c : Int) == 0) = false := by rw [beq_eq_false_iff_ne]; omega
    have h2 : ¬ (c : Int) = 0 := by omega
    go_enter Try.func29, Try.ntmps29
    go_wp2
    go_ret
    exact ⟨rfl, rfl⟩

theorem tail_at (s : ByteArray) (n : Nat) (h : n ≤ s.size) (w : World) :
    (Instr.slice 9 (.string s) (some (.int .i64 (n : Int))) none none).run Try.prog w = .ok (.string (s.extract n s.size)) w := by
  have ht' : Try.prog.underlying 9 = some .string := by kernel_rfl
  simp [Instr.slice, run_underlying ht', Instr.sliceBounds, Result.andThen]
  rw [run_sliceBound _ _ _ _ _ (by omega) (by omega)]
  simp

def rdV (cu : Bool) (c r w h a b s p k at_ : Int) : Array Value := #[.bool cu, .int .i64 c, .int .i64 r, .int .i64 w, .int .i64 h, .int .i64 a, .int .i64 b, .int .i64 s, .int .i64 p, .int .i64 k, .int .i64 at_]
theorem rbad_calls (k a : Int) (W : World) :
    Calls Try.prog 28 #[.int .i64 k, .int .i64 a] W fun e w' => e = .returned (.agg (rdV false 0 0 0 0 0 0 0 0 k a)) ∧ W.grownBy w' none := by
  unfold rdV
  go_enter Try.func28, Try.ntmps28
  go_wp2
  refine bodyPost_ret (v := .agg #[.bool false, .int .i64 0, .int .i64 0, .int .i64 0, .int .i64 0, .int .i64 0, .int .i64 0, .int .i64 0, .int .i64 0, .int .i64 k, .int .i64 a]) (by simp only [results, Try.results28]; go_simp) rfl ⟨rfl, ?_⟩
  exact World.grownBy_alloc _ _ _

theorem plain_calls (w h a b s p : Int) (W : World) :
    Calls Try.prog 12 #[.agg #[.int .i64 w, .int .i64 h, .int .i64 a, .int .i64 b, .int .i64 s, .int .i64 p]] W fun e w' => e = .returned (.agg #[.int .i64 w, .int .i64 h, .int .i64 a, .int .i64 b, .int .i64 s, .int .i64 p]) ∧ W.grownBy w' none := by
  go_enter Try.func12, Try.ntmps12
  go_wp2
  refine bodyPost_ret (v := .agg #[.int .i64 w, .int .i64 h, .int .i64 a, .int .i64 b, .int .i64 s, .int .i64 p]) (by simp only [results, Try.results12]; go_simp) rfl ⟨rfl, ?_⟩
  exact gb_trans (World.grownBy_alloc _ _ _) (World.grownBy_alloc _ _ _)

set_option maxRecDepth 100000 in
set_option maxHeartbeats 2000000 in
theorem rget_calls (T : ByteArray) (i : Nat) (hle : 22 + 16 * i ≤ T.size) (hbg : T.size ≤ 9223372036854775807) (W : World) :
    Calls Try.prog 16 #[.string T, .int .i64 (i : Nat)] W fun e w' => e = .returned (.agg (enV T (qE 0 i))) ∧ W.grownBy w' none := by
  obtain ⟨Q, hQ⟩ : ∃ Q, qE 0 i = Q := ⟨_, rfl⟩
  rw [hQ]
  unfold qE at hQ
  have HC := fun w => tail_at T Q (by omega) w
  obtain ⟨z, hz⟩ : ∃ z, T.extract Q T.size = z := ⟨_, rfl⟩
  have hzs : 16 ≤ z.size := by rw [← hz, ByteArray.size_extract]; omega
  have hzm : z.size ≤ 9223372036854775807 := by rw [← hz, ByteArray.size_extract]; omega
  have b0 : bn z 0 = bn T Q := by rw [← hz, bn_ext T Q T.size 0 (by omega) (by omega)]; rfl
  have b1 : bn z 1 = bn T (Q + 1) := by rw [← hz, bn_ext T Q T.size 1 (by omega) (by omega)]
  have b4 : w2 z 4 = w2 T (Q + 4) := by rw [← hz, w2_ext T Q T.size 4 (by omega) (by omega)]
  have b6 : w2 z 6 = w2 T (Q + 6) := by rw [← hz, w2_ext T Q T.size 6 (by omega) (by omega)]
  have b8 : w4 z 8 = w4 T (Q + 8) := by rw [← hz, w4_ext T Q T.size 8 (by omega) (by omega)]
  have b12 : w4 z 12 = w4 T (Q + 12) := by rw [← hz, w4_ext T Q T.size 12 (by omega) (by omega)]
  rw [hz] at HC
  have KW := fun u => rside_calls (bn z 0) (bn_lt _ _) u
  have KH := fun u => rside_calls (bn z 1) (bn_lt _ _) u
  have KA := fun u => le2_is z 4 (by omega) u
  have KB := fun u => le2_is z 6 (by omega) u
  have KS := fun u => le4_is z 8 (by omega) u
  have KP := fun u => le4_is z 12 (by omega) u
  have i0 : (0 : Int) < (z.size : Int) := by omega
  have i1 : (1 : Int) < (z.size : Int) := by omega
  have l0 : 0 < z.size := by omega
  have l1 : 1 < z.size := by omega
  have j0 : (z[0]'l0).toNat = bn z 0 := bn_at z 0 l0
  have j1 : (z[1]'l1).toNat = bn z 1 := bn_at z 1 l1
  have s1 : ∀ w, (Instr.slice 9 (.string z) (some (.int .i64 4)) (some (.int .i64 6)) none).run Try.prog w = .ok (.string (z.extract 4 (4 + 2))) w := fun w => cut_at z 4 2 (by omega) w
  have s2 : ∀ w, (Instr.slice 9 (.string z) (some (.int .i64 6)) (some (.int .i64 8)) none).run Try.prog w = .ok (.string (z.extract 6 (6 + 2))) w := fun w => cut_at z 6 2 (by omega) w
  have s3 : ∀ w, (Instr.slice 9 (.string z) (some (.int .i64 8)) (some (.int .i64 12)) none).run Try.prog w = .ok (.string (z.extract 8 (8 + 4))) w := fun w => cut_at z 8 4 (by omega) w
  have s4 : ∀ w, (Instr.slice 9 (.string z) (some (.int .i64 12)) (some (.int .i64 16)) none).run Try.prog w = .ok (.string (z.extract 12 (12 + 4))) w := fun w => cut_at z 12 4 (by omega) w
  unfold enV eW eH eA eB eS eP
  rw [← b0, ← b1, ← b4, ← b6, ← b8, ← b12]
  clear b0 b1 b4 b6 b8 b12
  obtain ⟨a, qa⟩ : ∃ n, w2 z 4 = n := ⟨_, rfl⟩
  rw [qa] at KA ⊢
  have KA := Lib.hid KA
  clear qa
  obtain ⟨b, qb⟩ : ∃ n, w2 z 6 = n := ⟨_, rfl⟩
  rw [qb] at KB ⊢
  have KB := Lib.hid KB
  clear qb
  obtain ⟨s, qs⟩ : ∃ n, w4 z 8 = n := ⟨_, rfl⟩
  rw [qs] at KS ⊢
  have KS := Lib.hid KS
  clear qs
  obtain ⟨p, qp⟩ : ∃ n, w4 z 12 = n := ⟨_, rfl⟩
  rw [qp] at KP ⊢
  have KP := Lib.hid KP
  clear qp
  obtain ⟨w0, qw⟩ : ∃ n, bn z 0 = n := ⟨_, rfl⟩
  rw [qw] at KW j0 ⊢
  obtain ⟨w, rw⟩ : ∃ n, sdI w0 = n := ⟨_, rfl⟩
  rw [rw] at KW ⊢
  have KW := Lib.hid KW
  clear qw rw
  obtain ⟨h0, qh⟩ : ∃ n, bn z 1 = n := ⟨_, rfl⟩
  rw [qh] at KH j1 ⊢
  obtain ⟨h, rh⟩ : ∃ n, sdI h0 = n := ⟨_, rfl⟩
  rw [rh] at KH ⊢
  have KH := Lib.hid KH
  clear qh rh
  have m1 : IntKind.i64.wrap (16 * (i : Int)) = 16 * (i : Int) := IntWalk.i64_in _ (by omega)
  have m2 : wrap64 (Q : Int) = (Q : Int) := by unfold wrap64; omega
  have m3 : (6 : Int) + 16 * (i : Int) = (Q : Int) := by omega
  have HZ := Lib.hid hzs
  clear hz hQ hle hzs hzm
  go_enter Try.func16, Try.ntmps16
  go_upto_region 2 with fail
  have R0 := blk_at (w := W) (o := .cells #[.int .i64 0, .int .i64 0, .int .i64 0, .int .i64 0, .int .i64 0, .int .i64 0] 41)
  have G0 := World.grownBy_alloc W (.cells #[.int .i64 0, .int .i64 0, .int .i64 0, .int .i64 0, .int .i64 0, .int .i64 0] 41) none
  generalize W.alloc (.cells #[.int .i64 0, .int .i64 0, .int .i64 0, .int .i64 0, .int .i64 0, .int .i64 0] 41) = w0 at R0 G0 ⊢
  clear m1 m2 m3
  have x0 := blk_cell R0 0
  have y0 := blk_free R0 0
  have x1 := blk_cell R0 1
  have y1 := blk_free R0 1
  have x2 := blk_cell R0 2
  have y2 := blk_free R0 2
  have x3 := blk_cell R0 3
  have y3 := blk_free R0 3
  have x4 := blk_cell R0 4
  have y4 := blk_free R0 4
  have x5 := blk_cell R0 5
  have y5 := blk_free R0 5
  simp only [List.getElem?_toArray, List.getElem?_cons_succ, List.getElem?_cons_zero] at x0 x1 x2 x3 x4 x5
  have hlt := blk_lt R0
  go_region_held3 (fun _ => True) (trivial)
    (first
      | (go_at_call 29; with_reducible refine (KW.out _).mono ?_; rintro e w' ⟨rfl, rfl⟩)
      | (go_at_call 29; with_reducible refine (KH.out _).mono ?_; rintro e w' ⟨rfl, rfl⟩)
      | (go_at_call 18; with_reducible refine (KA.out _).mono ?_; rintro e w' ⟨rfl, rfl⟩)
      | (go_at_call 18; with_reducible refine (KB.out _).mono ?_; rintro e w' ⟨rfl, rfl⟩)
      | (go_at_call 18; with_reducible refine (KS.out _).mono ?_; rintro e w' ⟨rfl, rfl⟩)
      | (go_at_call 18; with_reducible refine (KP.out _).mono ?_; rintro e w' ⟨rfl, rfl⟩))
  all_goals
    refine abs_w (R := fun u => u.heap[W.heap.size]? = some (.cells #[.int .i64 w, .int .i64 h, .int .i64 a, .int .i64 b, .int .i64 s, .int .i64 p] 41 (0, 0)) ∧ W.grownBy u none) ⟨?_, ?_⟩ (fun w5 I => ?_)
    · exact set6 R0 _ _ _ _ _ _
    · exact gb6 G0 (Nat.le_refl _) _ _ _ _ _ _
    clear x0 x1 x2 x3 x4 x5 y0 y1 y2 y3 y4 y5 hlt R0 G0
    have x0 := blk_cell I.1 0
    have x1 := blk_cell I.1 1
    have x2 := blk_cell I.1 2
    have x3 := blk_cell I.1 3
    have x4 := blk_cell I.1 4
    have x5 := blk_cell I.1 5
    simp only [List.getElem?_toArray, List.getElem?_cons_succ, List.getElem?_cons_zero] at x0 x1 x2 x3 x4 x5
    have G5 := Lib.hid I.2
    clear I
    go_wp2
    refine bodyPost_ret (v := .agg #[.int .i64 w, .int .i64 h, .int .i64 a, .int .i64 b, .int .i64 s, .int .i64 p]) (by simp only [results, Try.results16]; go_simp) rfl ⟨rfl, G5.out⟩

end Go.Proofs.Ytajbpcaghmcplaa.Id
