/- Texts of one kind, one behind the other: Tp1, Tp2, Tp4. -/
import Derived.Deep.Cut
import Derived.Test.YtnieeckdldpebaaGreatG19
import Derived.Test.YtnieeckdldpebaaGreatG20
/- Layer 17: the small functions of tgapix, walked (written by wip/gen/tp1.py). -/
namespace Go.Proofs.YtnieeckdldpebaaGreat.Tp
open Go.ChangeShapes Go.WideShapes Go.ChangeAt Go.RowKit
open Go.Proofs.YtnieeckdldpebaaGreat.Sc Go.Proofs.YtnieeckdldpebaaGreat.Le Go.Proofs.YtnieeckdldpebaaGreat.Pa Go.Proofs.YtnieeckdldpebaaGreat.Tg
set_option linter.unusedVariables false
theorem tplain_calls (t : Nat) (ht : t < 256) (W : World) : Calls Tryz.prog 98 #[.int .i64 t] W fun e w' => e = .returned (.int .i64 (pln t)) ∧ W = w' := by
  have K := fun u => packed_calls (t : Int) u
  by_cases h : 9 ≤ t ∧ t ≤ 11
  · have e : (decide ((9 : Int) ≤ t) && decide ((t : Int) ≤ 11)) = true := by simp; omega
    rw [e] at K
    rw [show ((pln t : Nat) : Int) = (t : Int) - 8 from by unfold pln; rw [if_pos h]; omega]
    have HK := Lib.hid K
    clear K e
    go_enter Tryz.func98, Tryz.ntmps98
    go_wp2_with fail
    refine (HK.out _).mono ?_
    rintro e w' ⟨rfl, rfl⟩
    go_wp2
    go_ret
    exact ⟨by go_num, rfl⟩
  · have e : (decide ((9 : Int) ≤ t) && decide ((t : Int) ≤ 11)) = false := by simp; omega
    rw [e] at K
    rw [show ((pln t : Nat) : Int) = (t : Int) from by unfold pln; rw [if_neg h]]
    have HK := Lib.hid K
    clear K e
    go_enter Tryz.func98, Tryz.ntmps98
    go_wp2_with fail
    refine (HK.out _).mono ?_
    rintro e w' ⟨rfl, rfl⟩
    go_wp2
    go_ret
    exact ⟨rfl, rfl⟩


theorem ek_15 (W : World) : Calls Tryz.prog 101 #[.int .i64 15] W fun e w' => e = .returned (.int .i64 2) ∧ W = w' := by
  go_enter Tryz.func101, Tryz.ntmps101
  go_wp2
  go_ret
  exact ⟨rfl, rfl⟩

theorem rk_15 (W : World) : Calls Tryz.prog 59 #[.int .i64 15] W fun e w' => e = .returned (.int .i64 2) ∧ W = w' := by
  go_enter Tryz.func59, Tryz.ntmps59
  go_wp2
  go_ret
  exact ⟨rfl, rfl⟩

theorem ek_16 (W : World) : Calls Tryz.prog 101 #[.int .i64 16] W fun e w' => e = .returned (.int .i64 2) ∧ W = w' := by
  go_enter Tryz.func101, Tryz.ntmps101
  go_wp2
  go_ret
  exact ⟨rfl, rfl⟩

theorem rk_16 (W : World) : Calls Tryz.prog 59 #[.int .i64 16] W fun e w' => e = .returned (.int .i64 2) ∧ W = w' := by
  go_enter Tryz.func59, Tryz.ntmps59
  go_wp2
  go_ret
  exact ⟨rfl, rfl⟩

theorem ek_24 (W : World) : Calls Tryz.prog 101 #[.int .i64 24] W fun e w' => e = .returned (.int .i64 3) ∧ W = w' := by
  go_enter Tryz.func101, Tryz.ntmps101
  go_wp2
  go_ret
  exact ⟨rfl, rfl⟩

theorem rk_24 (W : World) : Calls Tryz.prog 59 #[.int .i64 24] W fun e w' => e = .returned (.int .i64 3) ∧ W = w' := by
  go_enter Tryz.func59, Tryz.ntmps59
  go_wp2
  go_ret
  exact ⟨rfl, rfl⟩

theorem ek_32 (W : World) : Calls Tryz.prog 101 #[.int .i64 32] W fun e w' => e = .returned (.int .i64 5) ∧ W = w' := by
  go_enter Tryz.func101, Tryz.ntmps101
  go_wp2
  go_ret
  exact ⟨rfl, rfl⟩

theorem rk_32 (W : World) : Calls Tryz.prog 59 #[.int .i64 32] W fun e w' => e = .returned (.int .i64 5) ∧ W = w' := by
  go_enter Tryz.func59, Tryz.ntmps59
  go_wp2
  go_ret
  exact ⟨rfl, rfl⟩

theorem fl_15_0 (W : World) : Calls Tryz.prog 159 #[.int .i64 15, .int .i64 0] W fun e w' => e = .returned (.bool false) ∧ W = w' := by
  go_enter Tryz.func159, Tryz.ntmps159
  go_wp2
  go_ret
  exact ⟨rfl, rfl⟩

theorem fl_16_0 (W : World) : Calls Tryz.prog 159 #[.int .i64 16, .int .i64 0] W fun e w' => e = .returned (.bool false) ∧ W = w' := by
  go_enter Tryz.func159, Tryz.ntmps159
  go_wp2
  go_ret
  exact ⟨rfl, rfl⟩

theorem fl_16_1 (W : World) : Calls Tryz.prog 159 #[.int .i64 16, .int .i64 1] W fun e w' => e = .returned (.bool true) ∧ W = w' := by
  go_enter Tryz.func159, Tryz.ntmps159
  go_wp2
  go_ret
  exact ⟨rfl, rfl⟩

theorem fl_24_0 (W : World) : Calls Tryz.prog 159 #[.int .i64 24, .int .i64 0] W fun e w' => e = .returned (.bool false) ∧ W = w' := by
  go_enter Tryz.func159, Tryz.ntmps159
  go_wp2
  go_ret
  exact ⟨rfl, rfl⟩

theorem fl_32_0 (W : World) : Calls Tryz.prog 159 #[.int .i64 32, .int .i64 0] W fun e w' => e = .returned (.bool false) ∧ W = w' := by
  go_enter Tryz.func159, Tryz.ntmps159
  go_wp2
  go_ret
  exact ⟨rfl, rfl⟩

theorem fl_32_8 (W : World) : Calls Tryz.prog 159 #[.int .i64 32, .int .i64 8] W fun e w' => e = .returned (.bool false) ∧ W = w' := by
  go_enter Tryz.func159, Tryz.ntmps159
  go_wp2
  go_ret
  exact ⟨rfl, rfl⟩

/-- The alpha of a pixel at a place of a text, of so many bits, so many of alpha. -/
def pxT (d : Nat) : Nat := if d = 24 then 1 else if d = 32 then 3 else 0
def pxA (d a : Nat) (s : ByteArray) (o : Nat) : Int := if d = 16 ∧ a = 1 then (if 128 ≤ bt s (o + 1) then 255 else 0) else if d = 32 ∧ a = 0 then 255 else entAt (pxT d) s o 3
end Go.Proofs.YtnieeckdldpebaaGreat.Tp

/- Layer 17: Color, walked, by classes (written by wip/gen/tp1.py). -/
namespace Go.Proofs.YtnieeckdldpebaaGreat.Tp
open Go.ChangeShapes Go.WideShapes Go.ChangeAt Go.RowKit
open Go.Proofs.YtnieeckdldpebaaGreat.Sc Go.Proofs.YtnieeckdldpebaaGreat.Le Go.Proofs.YtnieeckdldpebaaGreat.Pa Go.Proofs.YtnieeckdldpebaaGreat.Tg
set_option linter.unusedVariables false

set_option maxRecDepth 100000 in
set_option maxHeartbeats 2000000 in
theorem color_15_0 (s z : ByteArray) (o : Nat) (W : World) (hz : s.extract o (o + 2) = z) (ho : o + 2 ≤ s.size) (hm : s.size ≤ 9223372036854775807) :
    Calls Tryz.prog 136 #[.string z, .int .i64 15, .int .i64 0] W fun e w' => e = .returned (.tuple #[.agg #[.int .u8 (entAt 0 s o 0), .int .u8 (entAt 0 s o 1), .int .u8 (entAt 0 s o 2), .int .u8 (pxA 15 0 s o)], .bool true]) ∧ W.grownBy w' none := by
  have hzs : z.size = 2 := by rw [← hz, ByteArray.size_extract]; omega
  have KE0 := fun u => entry_y0 z _ _ _ _ u (by omega) (by omega) (fun u => packed_at s z o u hz ho hm)
  obtain ⟨c0, e0⟩ : ∃ c, entAt 0 s o 0 = c := ⟨_, rfl⟩
  obtain ⟨c1, e1⟩ : ∃ c, entAt 0 s o 1 = c := ⟨_, rfl⟩
  obtain ⟨c2, e2⟩ : ∃ c, entAt 0 s o 2 = c := ⟨_, rfl⟩
  obtain ⟨c3, e3⟩ : ∃ c, entAt 0 s o 3 = c := ⟨_, rfl⟩
  simp only [e0, e1, e2, e3] at KE0
  rw [e0, e1, e2]
  have KE := Lib.hid KE0
  have KK := Lib.hid (fun u => ek_15 u)
  have KF := Lib.hid (fun u => fl_15_0 u)
  clear KE0
  have hA : pxA 15 0 s o = entAt 0 s o 3 := by unfold pxA pxT; simp
  rw [hA, e3]
  clear e0 e1 e2 e3 hA hz
  go_enter Tryz.func136, Tryz.ntmps136
  go_wp2_with fail
  have hR : (W.alloc (.cells #[.int .u8 0, .int .u8 0, .int .u8 0, .int .u8 0] 135)).heap[W.heap.size]? = some (.cells #[.int .u8 0, .int .u8 0, .int .u8 0, .int .u8 0] 135 (0, 0)) := blk_at
  have hG := World.grownBy_alloc W (.cells #[.int .u8 0, .int .u8 0, .int .u8 0, .int .u8 0] 135) none
  obtain ⟨r, hr⟩ : ∃ r, W.heap.size = r := ⟨_, rfl⟩
  have hrs := size_alloc W (.cells #[.int .u8 0, .int .u8 0, .int .u8 0, .int .u8 0] 135)
  rw [hr] at hR hrs ⊢
  have HRW := Lib.hid hr
  generalize W.alloc (.cells #[.int .u8 0, .int .u8 0, .int .u8 0, .int .u8 0] 135) = w0 at hR hG hrs ⊢
  have HR := Lib.hid hR
  have HG := Lib.hid hG
  have HRS := Lib.hid hrs
  clear hR hG hr hrs
  refine (KK.out _).mono ?_
  rintro e w' ⟨rfl, rfl⟩
  go_wp2_with fail
  refine (KE.out _).mono ?_
  rintro e w1 ⟨rfl, g1⟩
  have hR1 := old0 g1 HR.out (blk_lt HR.out) (by simp)
  have hlt := blk_lt hR1
  have HG1 := Lib.hid (gb_trans HG.out g1)
  have HCW := Lib.hid (show W.heap.size ≤ w1.heap.size from (gb_trans HG.out g1).size)
  clear g1 HR HG
  go_wp2_with fail
  have hC : (w1.alloc (.cells #[.int .u8 c0, .int .u8 c1, .int .u8 c2, .int .u8 c3] 135)).heap[w1.heap.size]? = some (.cells #[.int .u8 c0, .int .u8 c1, .int .u8 c2, .int .u8 c3] 135 (0, 0)) := blk_at
  have hR2 : (w1.alloc (.cells #[.int .u8 c0, .int .u8 c1, .int .u8 c2, .int .u8 c3] 135)).heap[r]? = some (.cells #[.int .u8 0, .int .u8 0, .int .u8 0, .int .u8 0] 135 (0, 0)) := blk_al hR1 _
  have HG2 := Lib.hid (gb_trans HG1.out (World.grownBy_alloc w1 (.cells #[.int .u8 c0, .int .u8 c1, .int .u8 c2, .int .u8 c3] 135) none))
  obtain ⟨q, hq'⟩ : ∃ q, w1.heap.size = q := ⟨_, rfl⟩
  rw [hq'] at hC hlt HCW ⊢
  generalize w1.alloc (.cells #[.int .u8 c0, .int .u8 c1, .int .u8 c2, .int .u8 c3] 135) = w2 at hC hR2 HG2 ⊢
  clear hR1 HG1 hq'
  refine (KF.out _).mono ?_
  rintro e w' ⟨rfl, rfl⟩
  have p0 : w2.cell? ⟨q, 0, none⟩ = some (.int .u8 c0) := blk_cell hC 0
  have pf0 := blk_free hC 0
  have p1 : w2.cell? ⟨q, 1, none⟩ = some (.int .u8 c1) := blk_cell hC 1
  have pf1 := blk_free hC 1
  have p2 : w2.cell? ⟨q, 2, none⟩ = some (.int .u8 c2) := blk_cell hC 2
  have pf2 := blk_free hC 2
  have p3 : w2.cell? ⟨q, 3, none⟩ = some (.int .u8 c3) := blk_cell hC 3
  have pf3 := blk_free hC 3
  have r0 : w2.cell? ⟨r, 0, none⟩ = some (.int .u8 0) := blk_cell hR2 0
  have rf0 := blk_free hR2 0
  have r1 : w2.cell? ⟨r, 1, none⟩ = some (.int .u8 0) := blk_cell hR2 1
  have rf1 := blk_free hR2 1
  have r2 : w2.cell? ⟨r, 2, none⟩ = some (.int .u8 0) := blk_cell hR2 2
  have rf2 := blk_free hR2 2
  have r3 : w2.cell? ⟨r, 3, none⟩ = some (.int .u8 0) := blk_cell hR2 3
  have rf3 := blk_free hR2 3
  have n1 : r ≠ q := by omega
  have n2 : q ≠ r := by omega
  have l1 := blk_lt hC
  have l2 := blk_lt hR2
  clear hC hR2 hlt KK KE KF
  go_wp2
  refine bodyPost_ret (v := .tuple #[.agg #[.int .u8 c0, .int .u8 c1, .int .u8 c2, .int .u8 c3], .bool true]) (by simp only [results, Tryz.results136]; go_simp) rfl ⟨rfl, ?_⟩
  have h1 := HRW.out
  have h2 := HCW.out
  repeat' first | with_reducible exact HG2.out | with_reducible refine gb_own ?_ (by omega) (gb_set _ _ _ _) | with_reducible refine gb_trans ?_ (gb_drew _ _) | with_reducible refine gb_trans ?_ (World.grownBy_alloc _ _ _)

set_option maxRecDepth 100000 in
set_option maxHeartbeats 2000000 in
theorem color_16_0 (s z : ByteArray) (o : Nat) (W : World) (hz : s.extract o (o + 2) = z) (ho : o + 2 ≤ s.size) (hm : s.size ≤ 9223372036854775807) :
    Calls Tryz.prog 136 #[.string z, .int .i64 16, .int .i64 0] W fun e w' => e = .returned (.tuple #[.agg #[.int .u8 (entAt 0 s o 0), .int .u8 (entAt 0 s o 1), .int .u8 (entAt 0 s o 2), .int .u8 (pxA 16 0 s o)], .bool true]) ∧ W.grownBy w' none := by
  have hzs : z.size = 2 := by rw [← hz, ByteArray.size_extract]; omega
  have KE0 := fun u => entry_y0 z _ _ _ _ u (by omega) (by omega) (fun u => packed_at s z o u hz ho hm)
  obtain ⟨c0, e0⟩ : ∃ c, entAt 0 s o 0 = c := ⟨_, rfl⟩
  obtain ⟨c1, e1⟩ : ∃ c, entAt 0 s o 1 = c := ⟨_, rfl⟩
  obtain ⟨c2, e2⟩ : ∃ c, entAt 0 s o 2 = c := ⟨_, rfl⟩
  obtain ⟨c3, e3⟩ : ∃ c, entAt 0 s o 3 = c := ⟨_, rfl⟩
  simp only [e0, e1, e2, e3] at KE0
  rw [e0, e1, e2]
  have KE := Lib.hid KE0
  have KK := Lib.hid (fun u => ek_16 u)
  have KF := Lib.hid (fun u => fl_16_0 u)
  clear KE0
  have hA : pxA 16 0 s o = entAt 0 s o 3 := by unfold pxA pxT; simp
  rw [hA, e3]
  clear e0 e1 e2 e3 hA hz
  go_enter Tryz.func136, Tryz.ntmps136
  go_wp2_with fail
  have hR : (W.alloc (.cells #[.int .u8 0, .int .u8 0, .int .u8 0, .int .u8 0] 135)).heap[W.heap.size]? = some (.cells #[.int .u8 0, .int .u8 0, .int .u8 0, .int .u8 0] 135 (0, 0)) := blk_at
  have hG := World.grownBy_alloc W (.cells #[.int .u8 0, .int .u8 0, .int .u8 0, .int .u8 0] 135) none
  obtain ⟨r, hr⟩ : ∃ r, W.heap.size = r := ⟨_, rfl⟩
  have hrs := size_alloc W (.cells #[.int .u8 0, .int .u8 0, .int .u8 0, .int .u8 0] 135)
  rw [hr] at hR hrs ⊢
  have HRW := Lib.hid hr
  generalize W.alloc (.cells #[.int .u8 0, .int .u8 0, .int .u8 0, .int .u8 0] 135) = w0 at hR hG hrs ⊢
  have HR := Lib.hid hR
  have HG := Lib.hid hG
  have HRS := Lib.hid hrs
  clear hR hG hr hrs
  refine (KK.out _).mono ?_
  rintro e w' ⟨rfl, rfl⟩
  go_wp2_with fail
  refine (KE.out _).mono ?_
  rintro e w1 ⟨rfl, g1⟩
  have hR1 := old0 g1 HR.out (blk_lt HR.out) (by simp)
  have hlt := blk_lt hR1
  have HG1 := Lib.hid (gb_trans HG.out g1)
  have HCW := Lib.hid (show W.heap.size ≤ w1.heap.size from (gb_trans HG.out g1).size)
  clear g1 HR HG
  go_wp2_with fail
  have hC : (w1.alloc (.cells #[.int .u8 c0, .int .u8 c1, .int .u8 c2, .int .u8 c3] 135)).heap[w1.heap.size]? = some (.cells #[.int .u8 c0, .int .u8 c1, .int .u8 c2, .int .u8 c3] 135 (0, 0)) := blk_at
  have hR2 : (w1.alloc (.cells #[.int .u8 c0, .int .u8 c1, .int .u8 c2, .int .u8 c3] 135)).heap[r]? = some (.cells #[.int .u8 0, .int .u8 0, .int .u8 0, .int .u8 0] 135 (0, 0)) := blk_al hR1 _
  have HG2 := Lib.hid (gb_trans HG1.out (World.grownBy_alloc w1 (.cells #[.int .u8 c0, .int .u8 c1, .int .u8 c2, .int .u8 c3] 135) none))
  obtain ⟨q, hq'⟩ : ∃ q, w1.heap.size = q := ⟨_, rfl⟩
  rw [hq'] at hC hlt HCW ⊢
  generalize w1.alloc (.cells #[.int .u8 c0, .int .u8 c1, .int .u8 c2, .int .u8 c3] 135) = w2 at hC hR2 HG2 ⊢
  clear hR1 HG1 hq'
  refine (KF.out _).mono ?_
  rintro e w' ⟨rfl, rfl⟩
  have p0 : w2.cell? ⟨q, 0, none⟩ = some (.int .u8 c0) := blk_cell hC 0
  have pf0 := blk_free hC 0
  have p1 : w2.cell? ⟨q, 1, none⟩ = some (.int .u8 c1) := blk_cell hC 1
  have pf1 := blk_free hC 1
  have p2 : w2.cell? ⟨q, 2, none⟩ = some (.int .u8 c2) := blk_cell hC 2
  have pf2 := blk_free hC 2
  have p3 : w2.cell? ⟨q, 3, none⟩ = some (.int .u8 c3) := blk_cell hC 3
  have pf3 := blk_free hC 3
  have r0 : w2.cell? ⟨r, 0, none⟩ = some (.int .u8 0) := blk_cell hR2 0
  have rf0 := blk_free hR2 0
  have r1 : w2.cell? ⟨r, 1, none⟩ = some (.int .u8 0) := blk_cell hR2 1
  have rf1 := blk_free hR2 1
  have r2 : w2.cell? ⟨r, 2, none⟩ = some (.int .u8 0) := blk_cell hR2 2
  have rf2 := blk_free hR2 2
  have r3 : w2.cell? ⟨r, 3, none⟩ = some (.int .u8 0) := blk_cell hR2 3
  have rf3 := blk_free hR2 3
  have n1 : r ≠ q := by omega
  have n2 : q ≠ r := by omega
  have l1 := blk_lt hC
  have l2 := blk_lt hR2
  clear hC hR2 hlt KK KE KF
  go_wp2
  refine bodyPost_ret (v := .tuple #[.agg #[.int .u8 c0, .int .u8 c1, .int .u8 c2, .int .u8 c3], .bool true]) (by simp only [results, Tryz.results136]; go_simp) rfl ⟨rfl, ?_⟩
  have h1 := HRW.out
  have h2 := HCW.out
  repeat' first | with_reducible exact HG2.out | with_reducible refine gb_own ?_ (by omega) (gb_set _ _ _ _) | with_reducible refine gb_trans ?_ (gb_drew _ _) | with_reducible refine gb_trans ?_ (World.grownBy_alloc _ _ _)

set_option maxRecDepth 100000 in
set_option maxHeartbeats 2000000 in
theorem color_16_1 (s z : ByteArray) (o : Nat) (W : World) (hz : s.extract o (o + 2) = z) (ho : o + 2 ≤ s.size) (hm : s.size ≤ 9223372036854775807) :
    Calls Tryz.prog 136 #[.string z, .int .i64 16, .int .i64 1] W fun e w' => e = .returned (.tuple #[.agg #[.int .u8 (entAt 0 s o 0), .int .u8 (entAt 0 s o 1), .int .u8 (entAt 0 s o 2), .int .u8 (pxA 16 1 s o)], .bool true]) ∧ W.grownBy w' none := by
  have hzs : z.size = 2 := by rw [← hz, ByteArray.size_extract]; omega
  have KE0 := fun u => entry_y0 z _ _ _ _ u (by omega) (by omega) (fun u => packed_at s z o u hz ho hm)
  obtain ⟨c0, e0⟩ : ∃ c, entAt 0 s o 0 = c := ⟨_, rfl⟩
  obtain ⟨c1, e1⟩ : ∃ c, entAt 0 s o 1 = c := ⟨_, rfl⟩
  obtain ⟨c2, e2⟩ : ∃ c, entAt 0 s o 2 = c := ⟨_, rfl⟩
  obtain ⟨c3, e3⟩ : ∃ c, entAt 0 s o 3 = c := ⟨_, rfl⟩
  simp only [e0, e1, e2, e3] at KE0
  rw [e0, e1, e2]
  have KE := Lib.hid KE0
  have KK := Lib.hid (fun u => ek_16 u)
  have KF := Lib.hid (fun u => fl_16_1 u)
  clear KE0
  have hb := bt_cut s z o (o + 2) 1 hz (by omega) (by omega)
  have hbb := bt_bd s (o + 1)
  have hA : pxA 16 1 s o = (if 128 ≤ bt s (o + 1) then 255 else 0) := by unfold pxA; rw [if_pos ⟨rfl, rfl⟩]
  rw [hA]
  obtain ⟨y, ey⟩ : ∃ y, bt s (o + 1) = y := ⟨_, rfl⟩
  rw [ey] at hb hbb ⊢
  have hy : (128 ≤ y ∧ y / 128 = 1) ∨ (¬ 128 ≤ y ∧ y / 128 = 0) := by omega
  clear e0 e1 e2 e3 hA ey hz
  rcases hy with ⟨hy, hq⟩ | ⟨hy, hq⟩
  · rw [if_pos hy]
    clear hy
    go_enter Tryz.func136, Tryz.ntmps136
    go_wp2_with fail
    have hR : (W.alloc (.cells #[.int .u8 0, .int .u8 0, .int .u8 0, .int .u8 0] 135)).heap[W.heap.size]? = some (.cells #[.int .u8 0, .int .u8 0, .int .u8 0, .int .u8 0] 135 (0, 0)) := blk_at
    have hG := World.grownBy_alloc W (.cells #[.int .u8 0, .int .u8 0, .int .u8 0, .int .u8 0] 135) none
    obtain ⟨r, hr⟩ : ∃ r, W.heap.size = r := ⟨_, rfl⟩
    have hrs := size_alloc W (.cells #[.int .u8 0, .int .u8 0, .int .u8 0, .int .u8 0] 135)
    rw [hr] at hR hrs ⊢
    have HRW := Lib.hid hr
    generalize W.alloc (.cells #[.int .u8 0, .int .u8 0, .int .u8 0, .int .u8 0] 135) = w0 at hR hG hrs ⊢
    have HR := Lib.hid hR
    have HG := Lib.hid hG
    have HRS := Lib.hid hrs
    clear hR hG hr hrs
    refine (KK.out _).mono ?_
    rintro e w' ⟨rfl, rfl⟩
    go_wp2_with fail
    refine (KE.out _).mono ?_
    rintro e w1 ⟨rfl, g1⟩
    have hR1 := old0 g1 HR.out (blk_lt HR.out) (by simp)
    have hlt := blk_lt hR1
    have HG1 := Lib.hid (gb_trans HG.out g1)
    have HCW := Lib.hid (show W.heap.size ≤ w1.heap.size from (gb_trans HG.out g1).size)
    clear g1 HR HG
    go_wp2_with fail
    have hC : (w1.alloc (.cells #[.int .u8 c0, .int .u8 c1, .int .u8 c2, .int .u8 c3] 135)).heap[w1.heap.size]? = some (.cells #[.int .u8 c0, .int .u8 c1, .int .u8 c2, .int .u8 c3] 135 (0, 0)) := blk_at
    have hR2 : (w1.alloc (.cells #[.int .u8 c0, .int .u8 c1, .int .u8 c2, .int .u8 c3] 135)).heap[r]? = some (.cells #[.int .u8 0, .int .u8 0, .int .u8 0, .int .u8 0] 135 (0, 0)) := blk_al hR1 _
    have HG2 := Lib.hid (gb_trans HG1.out (World.grownBy_alloc w1 (.cells #[.int .u8 c0, .int .u8 c1, .int .u8 c2, .int .u8 c3] 135) none))
    obtain ⟨q, hq'⟩ : ∃ q, w1.heap.size = q := ⟨_, rfl⟩
    rw [hq'] at hC hlt HCW ⊢
    generalize w1.alloc (.cells #[.int .u8 c0, .int .u8 c1, .int .u8 c2, .int .u8 c3] 135) = w2 at hC hR2 HG2 ⊢
    clear hR1 HG1 hq'
    refine (KF.out _).mono ?_
    rintro e w' ⟨rfl, rfl⟩
    have p0 : w2.cell? ⟨q, 0, none⟩ = some (.int .u8 c0) := blk_cell hC 0
    have pf0 := blk_free hC 0
    have p1 : w2.cell? ⟨q, 1, none⟩ = some (.int .u8 c1) := blk_cell hC 1
    have pf1 := blk_free hC 1
    have p2 : w2.cell? ⟨q, 2, none⟩ = some (.int .u8 c2) := blk_cell hC 2
    have pf2 := blk_free hC 2
    have p3 : w2.cell? ⟨q, 3, none⟩ = some (.int .u8 c3) := blk_cell hC 3
    have pf3 := blk_free hC 3
    have r0 : w2.cell? ⟨r, 0, none⟩ = some (.int .u8 0) := blk_cell hR2 0
    have rf0 := blk_free hR2 0
    have r1 : w2.cell? ⟨r, 1, none⟩ = some (.int .u8 0) := blk_cell hR2 1
    have rf1 := blk_free hR2 1
    have r2 : w2.cell? ⟨r, 2, none⟩ = some (.int .u8 0) := blk_cell hR2 2
    have rf2 := blk_free hR2 2
    have r3 : w2.cell? ⟨r, 3, none⟩ = some (.int .u8 0) := blk_cell hR2 3
    have rf3 := blk_free hR2 3
    have n1 : r ≠ q := by omega
    have n2 : q ≠ r := by omega
    have l1 := blk_lt hC
    have l2 := blk_lt hR2
    clear hC hR2 hlt KK KE KF
    go_wp2
    refine bodyPost_ret (v := .tuple #[.agg #[.int .u8 c0, .int .u8 c1, .int .u8 c2, .int .u8 255], .bool true]) (by simp only [results, Tryz.results136]; go_simp) rfl ⟨rfl, ?_⟩
    have h1 := HRW.out
    have h2 := HCW.out
    repeat' first | with_reducible exact HG2.out | with_reducible refine gb_own ?_ (by omega) (gb_set _ _ _ _) | with_reducible refine gb_trans ?_ (gb_drew _ _) | with_reducible refine gb_trans ?_ (World.grownBy_alloc _ _ _)
  · rw [if_neg hy]
    clear hy
    go_enter Tryz.func136, Tryz.ntmps136
    go_wp2_with fail
    have hR : (W.alloc (.cells #[.int .u8 0, .int .u8 0, .int .u8 0, .int .u8 0] 135)).heap[W.heap.size]? = some (.cells #[.int .u8 0, .int .u8 0, .int .u8 0, .int .u8 0] 135 (0, 0)) := blk_at
    have hG := World.grownBy_alloc W (.cells #[.int .u8 0, .int .u8 0, .int .u8 0, .int .u8 0] 135) none
    obtain ⟨r, hr⟩ : ∃ r, W.heap.size = r := ⟨_, rfl⟩
    have hrs := size_alloc W (.cells #[.int .u8 0, .int .u8 0, .int .u8 0, .int .u8 0] 135)
    rw [hr] at hR hrs ⊢
    have HRW := Lib.hid hr
    generalize W.alloc (.cells #[.int .u8 0, .int .u8 0, .int .u8 0, .int .u8 0] 135) = w0 at hR hG hrs ⊢
    have HR := Lib.hid hR
    have HG := Lib.hid hG
    have HRS := Lib.hid hrs
    clear hR hG hr hrs
    refine (KK.out _).mono ?_
    rintro e w' ⟨rfl, rfl⟩
    go_wp2_with fail
    refine (KE.out _).mono ?_
    rintro e w1 ⟨rfl, g1⟩
    have hR1 := old0 g1 HR.out (blk_lt HR.out) (by simp)
    have hlt := blk_lt hR1
    have HG1 := Lib.hid (gb_trans HG.out g1)
    have HCW := Lib.hid (show W.heap.size ≤ w1.heap.size from (gb_trans HG.out g1).size)
    clear g1 HR HG
    go_wp2_with fail
    have hC : (w1.alloc (.cells #[.int .u8 c0, .int .u8 c1, .int .u8 c2, .int .u8 c3] 135)).heap[w1.heap.size]? = some (.cells #[.int .u8 c0, .int .u8 c1, .int .u8 c2, .int .u8 c3] 135 (0, 0)) := blk_at
    have hR2 : (w1.alloc (.cells #[.int .u8 c0, .int .u8 c1, .int .u8 c2, .int .u8 c3] 135)).heap[r]? = some (.cells #[.int .u8 0, .int .u8 0, .int .u8 0, .int .u8 0] 135 (0, 0)) := blk_al hR1 _
    have HG2 := Lib.hid (gb_trans HG1.out (World.grownBy_alloc w1 (.cells #[.int .u8 c0, .int .u8 c1, .int .u8 c2, .int .u8 c3] 135) none))
    obtain ⟨q, hq'⟩ : ∃ q, w1.heap.size = q := ⟨_, rfl⟩
    rw [hq'] at hC hlt HCW ⊢
    generalize w1.alloc (.cells #[.int .u8 c0, .int .u8 c1, .int .u8 c2, .int .u8 c3] 135) = w2 at hC hR2 HG2 ⊢
    clear hR1 HG1 hq'
    refine (KF.out _).mono ?_
    rintro e w' ⟨rfl, rfl⟩
    have p0 : w2.cell? ⟨q, 0, none⟩ = some (.int .u8 c0) := blk_cell hC 0
    have pf0 := blk_free hC 0
    have p1 : w2.cell? ⟨q, 1, none⟩ = some (.int .u8 c1) := blk_cell hC 1
    have pf1 := blk_free hC 1
    have p2 : w2.cell? ⟨q, 2, none⟩ = some (.int .u8 c2) := blk_cell hC 2
    have pf2 := blk_free hC 2
    have p3 : w2.cell? ⟨q, 3, none⟩ = some (.int .u8 c3) := blk_cell hC 3
    have pf3 := blk_free hC 3
    have r0 : w2.cell? ⟨r, 0, none⟩ = some (.int .u8 0) := blk_cell hR2 0
    have rf0 := blk_free hR2 0
    have r1 : w2.cell? ⟨r, 1, none⟩ = some (.int .u8 0) := blk_cell hR2 1
    have rf1 := blk_free hR2 1
    have r2 : w2.cell? ⟨r, 2, none⟩ = some (.int .u8 0) := blk_cell hR2 2
    have rf2 := blk_free hR2 2
    have r3 : w2.cell? ⟨r, 3, none⟩ = some (.int .u8 0) := blk_cell hR2 3
    have rf3 := blk_free hR2 3
    have n1 : r ≠ q := by omega
    have n2 : q ≠ r := by omega
    have l1 := blk_lt hC
    have l2 := blk_lt hR2
    clear hC hR2 hlt KK KE KF
    go_wp2
    refine bodyPost_ret (v := .tuple #[.agg #[.int .u8 c0, .int .u8 c1, .int .u8 c2, .int .u8 0], .bool true]) (by simp only [results, Tryz.results136]; go_simp) rfl ⟨rfl, ?_⟩
    have h1 := HRW.out
    have h2 := HCW.out
    repeat' first | with_reducible exact HG2.out | with_reducible refine gb_own ?_ (by omega) (gb_set _ _ _ _) | with_reducible refine gb_trans ?_ (gb_drew _ _) | with_reducible refine gb_trans ?_ (World.grownBy_alloc _ _ _)

set_option maxRecDepth 100000 in
set_option maxHeartbeats 2000000 in
theorem color_24_0 (s z : ByteArray) (o : Nat) (W : World) (hz : s.extract o (o + 3) = z) (ho : o + 3 ≤ s.size) (hm : s.size ≤ 9223372036854775807) :
    Calls Tryz.prog 136 #[.string z, .int .i64 24, .int .i64 0] W fun e w' => e = .returned (.tuple #[.agg #[.int .u8 (entAt 1 s o 0), .int .u8 (entAt 1 s o 1), .int .u8 (entAt 1 s o 2), .int .u8 (pxA 24 0 s o)], .bool true]) ∧ W.grownBy w' none := by
  have hzs : z.size = 3 := by rw [← hz, ByteArray.size_extract]; omega
  have KE0 := fun u => entry_y1 z _ _ _ _ u (by omega) (by omega) (fun u => opaque_at 1 (.inl rfl) s z o 3 u (by decide) hz ho hm)
  obtain ⟨c0, e0⟩ : ∃ c, entAt 1 s o 0 = c := ⟨_, rfl⟩
  obtain ⟨c1, e1⟩ : ∃ c, entAt 1 s o 1 = c := ⟨_, rfl⟩
  obtain ⟨c2, e2⟩ : ∃ c, entAt 1 s o 2 = c := ⟨_, rfl⟩
  obtain ⟨c3, e3⟩ : ∃ c, entAt 1 s o 3 = c := ⟨_, rfl⟩
  simp only [e0, e1, e2, e3] at KE0
  rw [e0, e1, e2]
  have KE := Lib.hid KE0
  have KK := Lib.hid (fun u => ek_24 u)
  have KF := Lib.hid (fun u => fl_24_0 u)
  clear KE0
  have hA : pxA 24 0 s o = entAt 1 s o 3 := by unfold pxA pxT; simp
  rw [hA, e3]
  clear e0 e1 e2 e3 hA hz
  go_enter Tryz.func136, Tryz.ntmps136
  go_wp2_with fail
  have hR : (W.alloc (.cells #[.int .u8 0, .int .u8 0, .int .u8 0, .int .u8 0] 135)).heap[W.heap.size]? = some (.cells #[.int .u8 0, .int .u8 0, .int .u8 0, .int .u8 0] 135 (0, 0)) := blk_at
  have hG := World.grownBy_alloc W (.cells #[.int .u8 0, .int .u8 0, .int .u8 0, .int .u8 0] 135) none
  obtain ⟨r, hr⟩ : ∃ r, W.heap.size = r := ⟨_, rfl⟩
  have hrs := size_alloc W (.cells #[.int .u8 0, .int .u8 0, .int .u8 0, .int .u8 0] 135)
  rw [hr] at hR hrs ⊢
  have HRW := Lib.hid hr
  generalize W.alloc (.cells #[.int .u8 0, .int .u8 0, .int .u8 0, .int .u8 0] 135) = w0 at hR hG hrs ⊢
  have HR := Lib.hid hR
  have HG := Lib.hid hG
  have HRS := Lib.hid hrs
  clear hR hG hr hrs
  refine (KK.out _).mono ?_
  rintro e w' ⟨rfl, rfl⟩
  go_wp2_with fail
  refine (KE.out _).mono ?_
  rintro e w1 ⟨rfl, g1⟩
  have hR1 := old0 g1 HR.out (blk_lt HR.out) (by simp)
  have hlt := blk_lt hR1
  have HG1 := Lib.hid (gb_trans HG.out g1)
  have HCW := Lib.hid (show W.heap.size ≤ w1.heap.size from (gb_trans HG.out g1).size)
  clear g1 HR HG
  go_wp2_with fail
  have hC : (w1.alloc (.cells #[.int .u8 c0, .int .u8 c1, .int .u8 c2, .int .u8 c3] 135)).heap[w1.heap.size]? = some (.cells #[.int .u8 c0, .int .u8 c1, .int .u8 c2, .int .u8 c3] 135 (0, 0)) := blk_at
  have hR2 : (w1.alloc (.cells #[.int .u8 c0, .int .u8 c1, .int .u8 c2, .int .u8 c3] 135)).heap[r]? = some (.cells #[.int .u8 0, .int .u8 0, .int .u8 0, .int .u8 0] 135 (0, 0)) := blk_al hR1 _
  have HG2 := Lib.hid (gb_trans HG1.out (World.grownBy_alloc w1 (.cells #[.int .u8 c0, .int .u8 c1, .int .u8 c2, .int .u8 c3] 135) none))
  obtain ⟨q, hq'⟩ : ∃ q, w1.heap.size = q := ⟨_, rfl⟩
  rw [hq'] at hC hlt HCW ⊢
  generalize w1.alloc (.cells #[.int .u8 c0, .int .u8 c1, .int .u8 c2, .int .u8 c3] 135) = w2 at hC hR2 HG2 ⊢
  clear hR1 HG1 hq'
  refine (KF.out _).mono ?_
  rintro e w' ⟨rfl, rfl⟩
  have p0 : w2.cell? ⟨q, 0, none⟩ = some (.int .u8 c0) := blk_cell hC 0
  have pf0 := blk_free hC 0
  have p1 : w2.cell? ⟨q, 1, none⟩ = some (.int .u8 c1) := blk_cell hC 1
  have pf1 := blk_free hC 1
  have p2 : w2.cell? ⟨q, 2, none⟩ = some (.int .u8 c2) := blk_cell hC 2
  have pf2 := blk_free hC 2
  have p3 : w2.cell? ⟨q, 3, none⟩ = some (.int .u8 c3) := blk_cell hC 3
  have pf3 := blk_free hC 3
  have r0 : w2.cell? ⟨r, 0, none⟩ = some (.int .u8 0) := blk_cell hR2 0
  have rf0 := blk_free hR2 0
  have r1 : w2.cell? ⟨r, 1, none⟩ = some (.int .u8 0) := blk_cell hR2 1
  have rf1 := blk_free hR2 1
  have r2 : w2.cell? ⟨r, 2, none⟩ = some (.int .u8 0) := blk_cell hR2 2
  have rf2 := blk_free hR2 2
  have r3 : w2.cell? ⟨r, 3, none⟩ = some (.int .u8 0) := blk_cell hR2 3
  have rf3 := blk_free hR2 3
  have n1 : r ≠ q := by omega
  have n2 : q ≠ r := by omega
  have l1 := blk_lt hC
  have l2 := blk_lt hR2
  clear hC hR2 hlt KK KE KF
  go_wp2
  refine bodyPost_ret (v := .tuple #[.agg #[.int .u8 c0, .int .u8 c1, .int .u8 c2, .int .u8 c3], .bool true]) (by simp only [results, Tryz.results136]; go_simp) rfl ⟨rfl, ?_⟩
  have h1 := HRW.out
  have h2 := HCW.out
  repeat' first | with_reducible exact HG2.out | with_reducible refine gb_own ?_ (by omega) (gb_set _ _ _ _) | with_reducible refine gb_trans ?_ (gb_drew _ _) | with_reducible refine gb_trans ?_ (World.grownBy_alloc _ _ _)

set_option maxRecDepth 100000 in
set_option maxHeartbeats 2000000 in
theorem color_32_0 (s z : ByteArray) (o : Nat) (W : World) (hz : s.extract o (o + 4) = z) (ho : o + 4 ≤ s.size) (hm : s.size ≤ 9223372036854775807) :
    Calls Tryz.prog 136 #[.string z, .int .i64 32, .int .i64 0] W fun e w' => e = .returned (.tuple #[.agg #[.int .u8 (entAt 3 s o 0), .int .u8 (entAt 3 s o 1), .int .u8 (entAt 3 s o 2), .int .u8 (pxA 32 0 s o)], .bool true]) ∧ W.grownBy w' none := by
  have hzs : z.size = 4 := by rw [← hz, ByteArray.size_extract]; omega
  have KE0 := fun u => entry_y3 z _ _ _ _ u (by omega) (by omega) (fun u => whole_at s z o u hz ho hm)
  obtain ⟨c0, e0⟩ : ∃ c, entAt 3 s o 0 = c := ⟨_, rfl⟩
  obtain ⟨c1, e1⟩ : ∃ c, entAt 3 s o 1 = c := ⟨_, rfl⟩
  obtain ⟨c2, e2⟩ : ∃ c, entAt 3 s o 2 = c := ⟨_, rfl⟩
  obtain ⟨c3, e3⟩ : ∃ c, entAt 3 s o 3 = c := ⟨_, rfl⟩
  simp only [e0, e1, e2, e3] at KE0
  rw [e0, e1, e2]
  have KE := Lib.hid KE0
  have KK := Lib.hid (fun u => ek_32 u)
  have KF := Lib.hid (fun u => fl_32_0 u)
  clear KE0
  have hA : pxA 32 0 s o = 255 := by unfold pxA pxT; simp
  rw [hA]
  clear e0 e1 e2 e3 hA hz
  go_enter Tryz.func136, Tryz.ntmps136
  go_wp2_with fail
  have hR : (W.alloc (.cells #[.int .u8 0, .int .u8 0, .int .u8 0, .int .u8 0] 135)).heap[W.heap.size]? = some (.cells #[.int .u8 0, .int .u8 0, .int .u8 0, .int .u8 0] 135 (0, 0)) := blk_at
  have hG := World.grownBy_alloc W (.cells #[.int .u8 0, .int .u8 0, .int .u8 0, .int .u8 0] 135) none
  obtain ⟨r, hr⟩ : ∃ r, W.heap.size = r := ⟨_, rfl⟩
  have hrs := size_alloc W (.cells #[.int .u8 0, .int .u8 0, .int .u8 0, .int .u8 0] 135)
  rw [hr] at hR hrs ⊢
  have HRW := Lib.hid hr
  generalize W.alloc (.cells #[.int .u8 0, .int .u8 0, .int .u8 0, .int .u8 0] 135) = w0 at hR hG hrs ⊢
  have HR := Lib.hid hR
  have HG := Lib.hid hG
  have HRS := Lib.hid hrs
  clear hR hG hr hrs
  refine (KK.out _).mono ?_
  rintro e w' ⟨rfl, rfl⟩
  go_wp2_with fail
  refine (KE.out _).mono ?_
  rintro e w1 ⟨rfl, g1⟩
  have hR1 := old0 g1 HR.out (blk_lt HR.out) (by simp)
  have hlt := blk_lt hR1
  have HG1 := Lib.hid (gb_trans HG.out g1)
  have HCW := Lib.hid (show W.heap.size ≤ w1.heap.size from (gb_trans HG.out g1).size)
  clear g1 HR HG
  go_wp2_with fail
  have hC : (w1.alloc (.cells #[.int .u8 c0, .int .u8 c1, .int .u8 c2, .int .u8 c3] 135)).heap[w1.heap.size]? = some (.cells #[.int .u8 c0, .int .u8 c1, .int .u8 c2, .int .u8 c3] 135 (0, 0)) := blk_at
  have hR2 : (w1.alloc (.cells #[.int .u8 c0, .int .u8 c1, .int .u8 c2, .int .u8 c3] 135)).heap[r]? = some (.cells #[.int .u8 0, .int .u8 0, .int .u8 0, .int .u8 0] 135 (0, 0)) := blk_al hR1 _
  have HG2 := Lib.hid (gb_trans HG1.out (World.grownBy_alloc w1 (.cells #[.int .u8 c0, .int .u8 c1, .int .u8 c2, .int .u8 c3] 135) none))
  obtain ⟨q, hq'⟩ : ∃ q, w1.heap.size = q := ⟨_, rfl⟩
  rw [hq'] at hC hlt HCW ⊢
  generalize w1.alloc (.cells #[.int .u8 c0, .int .u8 c1, .int .u8 c2, .int .u8 c3] 135) = w2 at hC hR2 HG2 ⊢
  clear hR1 HG1 hq'
  refine (KF.out _).mono ?_
  rintro e w' ⟨rfl, rfl⟩
  have p0 : w2.cell? ⟨q, 0, none⟩ = some (.int .u8 c0) := blk_cell hC 0
  have pf0 := blk_free hC 0
  have p1 : w2.cell? ⟨q, 1, none⟩ = some (.int .u8 c1) := blk_cell hC 1
  have pf1 := blk_free hC 1
  have p2 : w2.cell? ⟨q, 2, none⟩ = some (.int .u8 c2) := blk_cell hC 2
  have pf2 := blk_free hC 2
  have p3 : w2.cell? ⟨q, 3, none⟩ = some (.int .u8 c3) := blk_cell hC 3
  have pf3 := blk_free hC 3
  have r0 : w2.cell? ⟨r, 0, none⟩ = some (.int .u8 0) := blk_cell hR2 0
  have rf0 := blk_free hR2 0
  have r1 : w2.cell? ⟨r, 1, none⟩ = some (.int .u8 0) := blk_cell hR2 1
  have rf1 := blk_free hR2 1
  have r2 : w2.cell? ⟨r, 2, none⟩ = some (.int .u8 0) := blk_cell hR2 2
  have rf2 := blk_free hR2 2
  have r3 : w2.cell? ⟨r, 3, none⟩ = some (.int .u8 0) := blk_cell hR2 3
  have rf3 := blk_free hR2 3
  have n1 : r ≠ q := by omega
  have n2 : q ≠ r := by omega
  have l1 := blk_lt hC
  have l2 := blk_lt hR2
  clear hC hR2 hlt KK KE KF
  go_wp2
  refine bodyPost_ret (v := .tuple #[.agg #[.int .u8 c0, .int .u8 c1, .int .u8 c2, .int .u8 255], .bool true]) (by simp only [results, Tryz.results136]; go_simp) rfl ⟨rfl, ?_⟩
  have h1 := HRW.out
  have h2 := HCW.out
  repeat' first | with_reducible exact HG2.out | with_reducible refine gb_own ?_ (by omega) (gb_set _ _ _ _) | with_reducible refine gb_trans ?_ (gb_drew _ _) | with_reducible refine gb_trans ?_ (World.grownBy_alloc _ _ _)

set_option maxRecDepth 100000 in
set_option maxHeartbeats 2000000 in
theorem color_32_8 (s z : ByteArray) (o : Nat) (W : World) (hz : s.extract o (o + 4) = z) (ho : o + 4 ≤ s.size) (hm : s.size ≤ 9223372036854775807) :
    Calls Tryz.prog 136 #[.string z, .int .i64 32, .int .i64 8] W fun e w' => e = .returned (.tuple #[.agg #[.int .u8 (entAt 3 s o 0), .int .u8 (entAt 3 s o 1), .int .u8 (entAt 3 s o 2), .int .u8 (pxA 32 8 s o)], .bool true]) ∧ W.grownBy w' none := by
  have hzs : z.size = 4 := by rw [← hz, ByteArray.size_extract]; omega
  have KE0 := fun u => entry_y3 z _ _ _ _ u (by omega) (by omega) (fun u => whole_at s z o u hz ho hm)
  obtain ⟨c0, e0⟩ : ∃ c, entAt 3 s o 0 = c := ⟨_, rfl⟩
  obtain ⟨c1, e1⟩ : ∃ c, entAt 3 s o 1 = c := ⟨_, rfl⟩
  obtain ⟨c2, e2⟩ : ∃ c, entAt 3 s o 2 = c := ⟨_, rfl⟩
  obtain ⟨c3, e3⟩ : ∃ c, entAt 3 s o 3 = c := ⟨_, rfl⟩
  simp only [e0, e1, e2, e3] at KE0
  rw [e0, e1, e2]
  have KE := Lib.hid KE0
  have KK := Lib.hid (fun u => ek_32 u)
  have KF := Lib.hid (fun u => fl_32_8 u)
  clear KE0
  have hA : pxA 32 8 s o = entAt 3 s o 3 := by unfold pxA pxT; simp
  rw [hA, e3]
  clear e0 e1 e2 e3 hA hz
  go_enter Tryz.func136, Tryz.ntmps136
  go_wp2_with fail
  have hR : (W.alloc (.cells #[.int .u8 0, .int .u8 0, .int .u8 0, .int .u8 0] 135)).heap[W.heap.size]? = some (.cells #[.int .u8 0, .int .u8 0, .int .u8 0, .int .u8 0] 135 (0, 0)) := blk_at
  have hG := World.grownBy_alloc W (.cells #[.int .u8 0, .int .u8 0, .int .u8 0, .int .u8 0] 135) none
  obtain ⟨r, hr⟩ : ∃ r, W.heap.size = r := ⟨_, rfl⟩
  have hrs := size_alloc W (.cells #[.int .u8 0, .int .u8 0, .int .u8 0, .int .u8 0] 135)
  rw [hr] at hR hrs ⊢
  have HRW := Lib.hid hr
  generalize W.alloc (.cells #[.int .u8 0, .int .u8 0, .int .u8 0, .int .u8 0] 135) = w0 at hR hG hrs ⊢
  have HR := Lib.hid hR
  have HG := Lib.hid hG
  have HRS := Lib.hid hrs
  clear hR hG hr hrs
  refine (KK.out _).mono ?_
  rintro e w' ⟨rfl, rfl⟩
  go_wp2_with fail
  refine (KE.out _).mono ?_
  rintro e w1 ⟨rfl, g1⟩
  have hR1 := old0 g1 HR.out (blk_lt HR.out) (by simp)
  have hlt := blk_lt hR1
  have HG1 := Lib.hid (gb_trans HG.out g1)
  have HCW := Lib.hid (show W.heap.size ≤ w1.heap.size from (gb_trans HG.out g1).size)
  clear g1 HR HG
  go_wp2_with fail
  have hC : (w1.alloc (.cells #[.int .u8 c0, .int .u8 c1, .int .u8 c2, .int .u8 c3] 135)).heap[w1.heap.size]? = some (.cells #[.int .u8 c0, .int .u8 c1, .int .u8 c2, .int .u8 c3] 135 (0, 0)) := blk_at
  have hR2 : (w1.alloc (.cells #[.int .u8 c0, .int .u8 c1, .int .u8 c2, .int .u8 c3] 135)).heap[r]? = some (.cells #[.int .u8 0, .int .u8 0, .int .u8 0, .int .u8 0] 135 (0, 0)) := blk_al hR1 _
  have HG2 := Lib.hid (gb_trans HG1.out (World.grownBy_alloc w1 (.cells #[.int .u8 c0, .int .u8 c1, .int .u8 c2, .int .u8 c3] 135) none))
  obtain ⟨q, hq'⟩ : ∃ q, w1.heap.size = q := ⟨_, rfl⟩
  rw [hq'] at hC hlt HCW ⊢
  generalize w1.alloc (.cells #[.int .u8 c0, .int .u8 c1, .int .u8 c2, .int .u8 c3] 135) = w2 at hC hR2 HG2 ⊢
  clear hR1 HG1 hq'
  refine (KF.out _).mono ?_
  rintro e w' ⟨rfl, rfl⟩
  have p0 : w2.cell? ⟨q, 0, none⟩ = some (.int .u8 c0) := blk_cell hC 0
  have pf0 := blk_free hC 0
  have p1 : w2.cell? ⟨q, 1, none⟩ = some (.int .u8 c1) := blk_cell hC 1
  have pf1 := blk_free hC 1
  have p2 : w2.cell? ⟨q, 2, none⟩ = some (.int .u8 c2) := blk_cell hC 2
  have pf2 := blk_free hC 2
  have p3 : w2.cell? ⟨q, 3, none⟩ = some (.int .u8 c3) := blk_cell hC 3
  have pf3 := blk_free hC 3
  have r0 : w2.cell? ⟨r, 0, none⟩ = some (.int .u8 0) := blk_cell hR2 0
  have rf0 := blk_free hR2 0
  have r1 : w2.cell? ⟨r, 1, none⟩ = some (.int .u8 0) := blk_cell hR2 1
  have rf1 := blk_free hR2 1
  have r2 : w2.cell? ⟨r, 2, none⟩ = some (.int .u8 0) := blk_cell hR2 2
  have rf2 := blk_free hR2 2
  have r3 : w2.cell? ⟨r, 3, none⟩ = some (.int .u8 0) := blk_cell hR2 3
  have rf3 := blk_free hR2 3
  have n1 : r ≠ q := by omega
  have n2 : q ≠ r := by omega
  have l1 := blk_lt hC
  have l2 := blk_lt hR2
  clear hC hR2 hlt KK KE KF
  go_wp2
  refine bodyPost_ret (v := .tuple #[.agg #[.int .u8 c0, .int .u8 c1, .int .u8 c2, .int .u8 c3], .bool true]) (by simp only [results, Tryz.results136]; go_simp) rfl ⟨rfl, ?_⟩
  have h1 := HRW.out
  have h2 := HCW.out
  repeat' first | with_reducible exact HG2.out | with_reducible refine gb_own ?_ (by omega) (gb_set _ _ _ _) | with_reducible refine gb_trans ?_ (gb_drew _ _) | with_reducible refine gb_trans ?_ (World.grownBy_alloc _ _ _)

end Go.Proofs.YtnieeckdldpebaaGreat.Tp

/- Layer 17: size and pixel, walked (written by wip/gen/tp4.py). -/
namespace Go.Proofs.YtnieeckdldpebaaGreat.Tp
open Go.ChangeShapes Go.WideShapes Go.ChangeAt Go.RowKit
open Go.Proofs.YtnieeckdldpebaaGreat.Sc Go.Proofs.YtnieeckdldpebaaGreat.Le Go.Proofs.YtnieeckdldpebaaGreat.Pa Go.Proofs.YtnieeckdldpebaaGreat.Tg
set_option linter.unusedVariables false

set_option maxRecDepth 100000 in
set_option maxHeartbeats 2000000 in
theorem tsize_col (n0 n3 n4 n5 n6 n7 n8 n9 : Int) (x2 : Nat) (mp lf tp : Bool) (k sz : Int) (W : World) (ht : x2 < 256) (hp : pln x2 = 2) (KE0 : ∀ u, Calls Tryz.prog 101 #[.int .i64 n8] u fun e w' => e = .returned (.int .i64 k) ∧ u = w')
    (KS0 : ∀ u, Calls Tryz.prog 100 #[.int .i64 k] u fun e w' => e = .returned (.int .i64 sz) ∧ u.grownBy w' none) :
    Calls Tryz.prog 153 #[.agg #[.int .i64 n0, .bool mp, .int .i64 x2, .int .i64 n3, .int .i64 n4, .int .i64 n5, .int .i64 n6, .int .i64 n7, .int .i64 n8, .int .i64 n9, .bool lf, .bool tp]] W fun e w' => e = .returned (.int .i64 sz) ∧ W.grownBy w' none := by
  have KE := Lib.hid KE0
  have KS := Lib.hid KS0
  have KP0 := fun u => tplain_calls x2 ht u
  simp only [hp] at KP0
  have KP := Lib.hid KP0
  clear KE0 KS0 KP0 hp
  go_enter Tryz.func153, Tryz.ntmps153
  go_wp2_with fail
  refine (KP.out _).mono ?_
  rintro e w' ⟨rfl, rfl⟩
  go_wp2_with fail
  refine (KE.out _).mono ?_
  rintro e w' ⟨rfl, rfl⟩
  go_wp2_with fail
  refine (KS.out _).mono ?_
  rintro e w1 ⟨rfl, g1⟩
  have HG := Lib.hid (gb_trans (World.grownBy_alloc _ _ none) g1)
  clear g1
  go_wp2
  go_ret
  exact ⟨rfl, HG.out⟩

set_option maxRecDepth 100000 in
set_option maxHeartbeats 2000000 in
theorem tsize_one (n0 n3 n4 n5 n6 n7 n8 n9 : Int) (x2 : Nat) (mp lf tp : Bool) (W : World) (ht : x2 < 256) (hp : ((pln x2 : Int) == 2) = false) :
    Calls Tryz.prog 153 #[.agg #[.int .i64 n0, .bool mp, .int .i64 x2, .int .i64 n3, .int .i64 n4, .int .i64 n5, .int .i64 n6, .int .i64 n7, .int .i64 n8, .int .i64 n9, .bool lf, .bool tp]] W fun e w' => e = .returned (.int .i64 1) ∧ W.grownBy w' none := by
  have KP0 := fun u => tplain_calls x2 ht u
  obtain ⟨y, hy⟩ : ∃ y : Int, (pln x2 : Int) = y := ⟨_, rfl⟩
  simp only [hy] at KP0
  rw [hy] at hp
  have KP := Lib.hid KP0
  clear KP0 hy
  go_enter Tryz.func153, Tryz.ntmps153
  go_wp2_with fail
  refine (KP.out _).mono ?_
  rintro e w' ⟨rfl, rfl⟩
  go_wp2
  go_ret
  exact ⟨rfl, World.grownBy_alloc _ _ _⟩

set_option maxRecDepth 100000 in
set_option maxHeartbeats 2000000 in
/-- A pixel of three bytes, or so. -/
theorem tpix_col (n0 n3 n4 n5 n6 n7 n8 n9 : Int) (x2 : Nat) (mp lf tp : Bool) (z : ByteArray) (pp : Value) (c0 c1 c2 c3 : Int) (W : World) (ht : x2 < 256) (hp : pln x2 = 2) (KC0 : ∀ u, Calls Tryz.prog 136 #[.string z, .int .i64 n8, .int .i64 n9] u fun e w' => e = .returned (.tuple #[.agg #[.int .u8 c0, .int .u8 c1, .int .u8 c2, .int .u8 c3], .bool true]) ∧ u.grownBy w' none) :
    Calls Tryz.prog 154 #[.string z, .agg #[.int .i64 n0, .bool mp, .int .i64 x2, .int .i64 n3, .int .i64 n4, .int .i64 n5, .int .i64 n6, .int .i64 n7, .int .i64 n8, .int .i64 n9, .bool lf, .bool tp], pp] W fun e w' => e = .returned (.tuple #[.agg #[.int .u8 c0, .int .u8 c1, .int .u8 c2, .int .u8 c3], .bool true]) ∧ W.grownBy w' none := by
  have KC := Lib.hid KC0
  have KP0 := fun u => tplain_calls x2 ht u
  simp only [hp] at KP0
  have KP := Lib.hid KP0
  clear KC0 KP0 hp
  go_enter Tryz.func154, Tryz.ntmps154
  go_wp2_with fail
  have hH : ((W.alloc (.cells #[.int .i64 n0, .bool mp, .int .i64 x2, .int .i64 n3, .int .i64 n4, .int .i64 n5, .int .i64 n6, .int .i64 n7, .int .i64 n8, .int .i64 n9, .bool lf, .bool tp] 55)).alloc (.cells #[.int .u8 0, .int .u8 0, .int .u8 0, .int .u8 0] 135)).heap[W.heap.size]? = some (.cells #[.int .i64 n0, .bool mp, .int .i64 x2, .int .i64 n3, .int .i64 n4, .int .i64 n5, .int .i64 n6, .int .i64 n7, .int .i64 n8, .int .i64 n9, .bool lf, .bool tp] 55 (0, 0)) := blk_al blk_at _
  have hR : ((W.alloc (.cells #[.int .i64 n0, .bool mp, .int .i64 x2, .int .i64 n3, .int .i64 n4, .int .i64 n5, .int .i64 n6, .int .i64 n7, .int .i64 n8, .int .i64 n9, .bool lf, .bool tp] 55)).alloc (.cells #[.int .u8 0, .int .u8 0, .int .u8 0, .int .u8 0] 135)).heap[W.heap.size + 1]? = some (.cells #[.int .u8 0, .int .u8 0, .int .u8 0, .int .u8 0] 135 (0, 0)) := by rw [← size_alloc W (.cells #[.int .i64 n0, .bool mp, .int .i64 x2, .int .i64 n3, .int .i64 n4, .int .i64 n5, .int .i64 n6, .int .i64 n7, .int .i64 n8, .int .i64 n9, .bool lf, .bool tp] 55)]; exact blk_at
  have hG : W.grownBy ((W.alloc (.cells #[.int .i64 n0, .bool mp, .int .i64 x2, .int .i64 n3, .int .i64 n4, .int .i64 n5, .int .i64 n6, .int .i64 n7, .int .i64 n8, .int .i64 n9, .bool lf, .bool tp] 55)).alloc (.cells #[.int .u8 0, .int .u8 0, .int .u8 0, .int .u8 0] 135)) none := gb_trans (World.grownBy_alloc _ _ _) (World.grownBy_alloc _ _ _)
  obtain ⟨hb, hhb⟩ : ∃ r, W.heap.size = r := ⟨_, rfl⟩
  rw [hhb] at hH hR ⊢
  have HHB := Lib.hid hhb
  generalize (W.alloc (.cells #[.int .i64 n0, .bool mp, .int .i64 x2, .int .i64 n3, .int .i64 n4, .int .i64 n5, .int .i64 n6, .int .i64 n7, .int .i64 n8, .int .i64 n9, .bool lf, .bool tp] 55)).alloc (.cells #[.int .u8 0, .int .u8 0, .int .u8 0, .int .u8 0] 135) = w0 at hH hR hG ⊢
  have HH := Lib.hid hH
  have HR := Lib.hid hR
  have HG := Lib.hid hG
  have hl0 := blk_lt hH
  have hl1 := blk_lt hR
  clear hH hR hG hhb
  refine (KP.out _).mono ?_
  rintro e w' ⟨rfl, rfl⟩
  have h0 : w0.cell? ⟨hb, 0, none⟩ = some (.int .i64 n0) := blk_cell HH.out 0
  have h1 : w0.cell? ⟨hb, 1, none⟩ = some (.bool mp) := blk_cell HH.out 1
  have h2 : w0.cell? ⟨hb, 2, none⟩ = some (.int .i64 x2) := blk_cell HH.out 2
  have h3 : w0.cell? ⟨hb, 3, none⟩ = some (.int .i64 n3) := blk_cell HH.out 3
  have h4 : w0.cell? ⟨hb, 4, none⟩ = some (.int .i64 n4) := blk_cell HH.out 4
  have h5 : w0.cell? ⟨hb, 5, none⟩ = some (.int .i64 n5) := blk_cell HH.out 5
  have h6 : w0.cell? ⟨hb, 6, none⟩ = some (.int .i64 n6) := blk_cell HH.out 6
  have h7 : w0.cell? ⟨hb, 7, none⟩ = some (.int .i64 n7) := blk_cell HH.out 7
  have h8 : w0.cell? ⟨hb, 8, none⟩ = some (.int .i64 n8) := blk_cell HH.out 8
  have h9 : w0.cell? ⟨hb, 9, none⟩ = some (.int .i64 n9) := blk_cell HH.out 9
  have h10 : w0.cell? ⟨hb, 10, none⟩ = some (.bool lf) := blk_cell HH.out 10
  have h11 : w0.cell? ⟨hb, 11, none⟩ = some (.bool tp) := blk_cell HH.out 11
  go_wp2_with fail
  refine (KC.out _).mono ?_
  rintro e w1 ⟨rfl, g1⟩
  have hR1 := old0 g1 HR.out (blk_lt HR.out) (by simp)
  have HG1 := Lib.hid (gb_trans HG.out g1)
  clear g1 HR HG HH h0 h1 h2 h3 h4 h5 h6 h7 h8 h9 h10 h11
  have r0 : w1.cell? ⟨hb + 1, 0, none⟩ = some (.int .u8 0) := blk_cell hR1 0
  have rf0 := blk_free hR1 0
  have r1 : w1.cell? ⟨hb + 1, 1, none⟩ = some (.int .u8 0) := blk_cell hR1 1
  have rf1 := blk_free hR1 1
  have r2 : w1.cell? ⟨hb + 1, 2, none⟩ = some (.int .u8 0) := blk_cell hR1 2
  have rf2 := blk_free hR1 2
  have r3 : w1.cell? ⟨hb + 1, 3, none⟩ = some (.int .u8 0) := blk_cell hR1 3
  have rf3 := blk_free hR1 3
  have hl2 := blk_lt hR1
  have n1 : hb ≠ hb + 1 := by omega
  have n2 : hb + 1 ≠ hb := by omega
  clear hR1
  go_wp2
  refine bodyPost_ret (v := .tuple #[.agg #[.int .u8 c0, .int .u8 c1, .int .u8 c2, .int .u8 c3], .bool true]) (by simp only [results, Tryz.results154]; go_simp) rfl ⟨rfl, ?_⟩
  have h1 := HHB.out
  repeat' first | with_reducible exact HG1.out | with_reducible refine gb_own ?_ (by omega) (gb_set _ _ _ _) | with_reducible refine gb_trans ?_ (gb_drew _ _) | with_reducible refine gb_trans ?_ (World.grownBy_alloc _ _ _)

set_option maxRecDepth 100000 in
set_option maxHeartbeats 2000000 in
/-- A pixel that is an entry's number. -/
theorem tpix_map (n0 n3 n4 n5 n6 n7 n8 n9 : Int) (x2 : Nat) (mp lf tp : Bool) (z : ByteArray) (p v : Nat) (c0 c1 c2 c3 : Int) (ok : Bool) (W : World) (P : World → Prop) (ht : x2 < 256) (hp : pln x2 = 1) (hz : 0 < z.size) (hv : (z[0]'hz).toNat = v) (h3 : 0 ≤ n3 ∧ n3 ≤ 65535) (hP : P W) (hPg : ∀ u u', P u → u.grownBy u' none → P u')
    (KO0 : ∀ u, P u → Calls Tryz.prog 167 #[.pointer (some ⟨p, 0, none⟩), .int .i64 ((v : Int) - n3)] u fun e w' => e = .returned (.tuple #[.agg #[.int .u8 c0, .int .u8 c1, .int .u8 c2, .int .u8 c3], .bool ok]) ∧ u.grownBy w' none) :
    Calls Tryz.prog 154 #[.string z, .agg #[.int .i64 n0, .bool mp, .int .i64 x2, .int .i64 n3, .int .i64 n4, .int .i64 n5, .int .i64 n6, .int .i64 n7, .int .i64 n8, .int .i64 n9, .bool lf, .bool tp], .pointer (some ⟨p, 0, none⟩)] W fun e w' => e = .returned (.tuple #[.agg #[.int .u8 c0, .int .u8 c1, .int .u8 c2, .int .u8 c3], .bool ok]) ∧ W.grownBy w' none := by
  have hv255 : v < 256 := by rw [← hv]; exact UInt8.toNat_lt _
  have g0 : ((z[0]'hz).toNat : Int) = v := by rw [hv]
  have v1 : IntKind.i64.wrap (v : Int) = v := IntWalk.i64_in _ (by omega)
  have v2 : IntKind.i64.wrap ((v : Int) - n3) = (v : Int) - n3 := IntWalk.i64_in _ (by omega)
  have i0 : (0 : Int) < (z.size : Int) := by omega
  have KO := Lib.hid KO0
  have HP := Lib.hid hP
  have HPG := Lib.hid hPg
  have KP0 := fun u => tplain_calls x2 ht u
  simp only [hp] at KP0
  have KP := Lib.hid KP0
  clear KO0 KP0 hp hP hPg hv
  go_enter Tryz.func154, Tryz.ntmps154
  go_wp2_with fail
  have hH : ((W.alloc (.cells #[.int .i64 n0, .bool mp, .int .i64 x2, .int .i64 n3, .int .i64 n4, .int .i64 n5, .int .i64 n6, .int .i64 n7, .int .i64 n8, .int .i64 n9, .bool lf, .bool tp] 55)).alloc (.cells #[.int .u8 0, .int .u8 0, .int .u8 0, .int .u8 0] 135)).heap[W.heap.size]? = some (.cells #[.int .i64 n0, .bool mp, .int .i64 x2, .int .i64 n3, .int .i64 n4, .int .i64 n5, .int .i64 n6, .int .i64 n7, .int .i64 n8, .int .i64 n9, .bool lf, .bool tp] 55 (0, 0)) := blk_al blk_at _
  have hR : ((W.alloc (.cells #[.int .i64 n0, .bool mp, .int .i64 x2, .int .i64 n3, .int .i64 n4, .int .i64 n5, .int .i64 n6, .int .i64 n7, .int .i64 n8, .int .i64 n9, .bool lf, .bool tp] 55)).alloc (.cells #[.int .u8 0, .int .u8 0, .int .u8 0, .int .u8 0] 135)).heap[W.heap.size + 1]? = some (.cells #[.int .u8 0, .int .u8 0, .int .u8 0, .int .u8 0] 135 (0, 0)) := by rw [← size_alloc W (.cells #[.int .i64 n0, .bool mp, .int .i64 x2, .int .i64 n3, .int .i64 n4, .int .i64 n5, .int .i64 n6, .int .i64 n7, .int .i64 n8, .int .i64 n9, .bool lf, .bool tp] 55)]; exact blk_at
  have hG : W.grownBy ((W.alloc (.cells #[.int .i64 n0, .bool mp, .int .i64 x2, .int .i64 n3, .int .i64 n4, .int .i64 n5, .int .i64 n6, .int .i64 n7, .int .i64 n8, .int .i64 n9, .bool lf, .bool tp] 55)).alloc (.cells #[.int .u8 0, .int .u8 0, .int .u8 0, .int .u8 0] 135)) none := gb_trans (World.grownBy_alloc _ _ _) (World.grownBy_alloc _ _ _)
  obtain ⟨hb, hhb⟩ : ∃ r, W.heap.size = r := ⟨_, rfl⟩
  rw [hhb] at hH hR ⊢
  have HHB := Lib.hid hhb
  generalize (W.alloc (.cells #[.int .i64 n0, .bool mp, .int .i64 x2, .int .i64 n3, .int .i64 n4, .int .i64 n5, .int .i64 n6, .int .i64 n7, .int .i64 n8, .int .i64 n9, .bool lf, .bool tp] 55)).alloc (.cells #[.int .u8 0, .int .u8 0, .int .u8 0, .int .u8 0] 135) = w0 at hH hR hG ⊢
  have HH := Lib.hid hH
  have HR := Lib.hid hR
  have HG := Lib.hid hG
  have hl0 := blk_lt hH
  have hl1 := blk_lt hR
  clear hH hR hG hhb
  have HPW := Lib.hid (HPG.out _ _ HP.out HG.out)
  refine (KP.out _).mono ?_
  rintro e w' ⟨rfl, rfl⟩
  have h0 : w0.cell? ⟨hb, 0, none⟩ = some (.int .i64 n0) := blk_cell HH.out 0
  have h1 : w0.cell? ⟨hb, 1, none⟩ = some (.bool mp) := blk_cell HH.out 1
  have h2 : w0.cell? ⟨hb, 2, none⟩ = some (.int .i64 x2) := blk_cell HH.out 2
  have h3 : w0.cell? ⟨hb, 3, none⟩ = some (.int .i64 n3) := blk_cell HH.out 3
  have h4 : w0.cell? ⟨hb, 4, none⟩ = some (.int .i64 n4) := blk_cell HH.out 4
  have h5 : w0.cell? ⟨hb, 5, none⟩ = some (.int .i64 n5) := blk_cell HH.out 5
  have h6 : w0.cell? ⟨hb, 6, none⟩ = some (.int .i64 n6) := blk_cell HH.out 6
  have h7 : w0.cell? ⟨hb, 7, none⟩ = some (.int .i64 n7) := blk_cell HH.out 7
  have h8 : w0.cell? ⟨hb, 8, none⟩ = some (.int .i64 n8) := blk_cell HH.out 8
  have h9 : w0.cell? ⟨hb, 9, none⟩ = some (.int .i64 n9) := blk_cell HH.out 9
  have h10 : w0.cell? ⟨hb, 10, none⟩ = some (.bool lf) := blk_cell HH.out 10
  have h11 : w0.cell? ⟨hb, 11, none⟩ = some (.bool tp) := blk_cell HH.out 11
  go_wp2_with fail
  go_region_with (go_at_call 167; refine (KO.out _ (by first | exact HPW.out | exact HPG.out _ _ HPW.out (gb_drew _ _))).mono ?_; rintro e w1 ⟨rfl, g1⟩; have HG1 := Lib.hid (show W.grownBy w1 none from by first | exact gb_trans HG.out g1 | exact gb_trans (gb_trans HG.out (gb_drew _ _)) g1); have hR1 : w1.heap[hb + 1]? = some (.cells #[.int .u8 0, .int .u8 0, .int .u8 0, .int .u8 0] 135 (0, 0)) := (by first | exact old0 g1 HR.out (blk_lt HR.out) (by simp) | exact old0 g1 (show w0.drew.heap[hb + 1]? = _ from HR.out) (blk_lt (w := w0.drew) HR.out) (by simp)); have r0 : w1.cell? ⟨hb + 1, 0, none⟩ = some (.int .u8 0) := blk_cell hR1 0; have rf0 := blk_free hR1 0; have r1 : w1.cell? ⟨hb + 1, 1, none⟩ = some (.int .u8 0) := blk_cell hR1 1; have rf1 := blk_free hR1 1; have r2 : w1.cell? ⟨hb + 1, 2, none⟩ = some (.int .u8 0) := blk_cell hR1 2; have rf2 := blk_free hR1 2; have r3 : w1.cell? ⟨hb + 1, 3, none⟩ = some (.int .u8 0) := blk_cell hR1 3; have rf3 := blk_free hR1 3; have hl2 := blk_lt hR1)
  all_goals
    have n1 : hb ≠ hb + 1 := by omega
    have n2 : hb + 1 ≠ hb := by omega
    go_wp2
    refine bodyPost_ret (v := .tuple #[.agg #[.int .u8 c0, .int .u8 c1, .int .u8 c2, .int .u8 c3], .bool ok]) (by simp only [results, Tryz.results154]; go_simp) rfl ⟨rfl, ?_⟩
    have h1 := HHB.out
    repeat' first | with_reducible exact HG1.out | with_reducible refine gb_own ?_ (by omega) (gb_set _ _ _ _) | with_reducible refine gb_trans ?_ (gb_drew _ _) | with_reducible refine gb_trans ?_ (World.grownBy_alloc _ _ _)

set_option maxRecDepth 100000 in
set_option maxHeartbeats 2000000 in
/-- A grey pixel. -/
theorem tpix_grey (n0 n3 n4 n5 n6 n7 n8 n9 : Int) (x2 : Nat) (mp lf tp : Bool) (z : ByteArray) (pp : Value) (v : Nat) (W : World) (ht : x2 < 256) (hp1 : ((pln x2 : Int) == 1) = false) (hp2 : ((pln x2 : Int) == 2) = false) (hz : 0 < z.size) (hv : (z[0]'hz).toNat = v) :
    Calls Tryz.prog 154 #[.string z, .agg #[.int .i64 n0, .bool mp, .int .i64 x2, .int .i64 n3, .int .i64 n4, .int .i64 n5, .int .i64 n6, .int .i64 n7, .int .i64 n8, .int .i64 n9, .bool lf, .bool tp], pp] W fun e w' => e = .returned (.tuple #[.agg #[.int .u8 v, .int .u8 v, .int .u8 v, .int .u8 255], .bool true]) ∧ W.grownBy w' none := by
  have g0 : ((z[0]'hz).toNat : Int) = v := by rw [hv]
  have i0 : (0 : Int) < (z.size : Int) := by omega
  have KP0 := fun u => tplain_calls x2 ht u
  obtain ⟨y, hy⟩ : ∃ y : Int, (pln x2 : Int) = y := ⟨_, rfl⟩
  simp only [hy] at KP0
  rw [hy] at hp1 hp2
  have KP := Lib.hid KP0
  clear KP0 hv hy
  go_enter Tryz.func154, Tryz.ntmps154
  go_wp2_with fail
  have hH : ((W.alloc (.cells #[.int .i64 n0, .bool mp, .int .i64 x2, .int .i64 n3, .int .i64 n4, .int .i64 n5, .int .i64 n6, .int .i64 n7, .int .i64 n8, .int .i64 n9, .bool lf, .bool tp] 55)).alloc (.cells #[.int .u8 0, .int .u8 0, .int .u8 0, .int .u8 0] 135)).heap[W.heap.size]? = some (.cells #[.int .i64 n0, .bool mp, .int .i64 x2, .int .i64 n3, .int .i64 n4, .int .i64 n5, .int .i64 n6, .int .i64 n7, .int .i64 n8, .int .i64 n9, .bool lf, .bool tp] 55 (0, 0)) := blk_al blk_at _
  have hR : ((W.alloc (.cells #[.int .i64 n0, .bool mp, .int .i64 x2, .int .i64 n3, .int .i64 n4, .int .i64 n5, .int .i64 n6, .int .i64 n7, .int .i64 n8, .int .i64 n9, .bool lf, .bool tp] 55)).alloc (.cells #[.int .u8 0, .int .u8 0, .int .u8 0, .int .u8 0] 135)).heap[W.heap.size + 1]? = some (.cells #[.int .u8 0, .int .u8 0, .int .u8 0, .int .u8 0] 135 (0, 0)) := by rw [← size_alloc W (.cells #[.int .i64 n0, .bool mp, .int .i64 x2, .int .i64 n3, .int .i64 n4, .int .i64 n5, .int .i64 n6, .int .i64 n7, .int .i64 n8, .int .i64 n9, .bool lf, .bool tp] 55)]; exact blk_at
  have hG : W.grownBy ((W.alloc (.cells #[.int .i64 n0, .bool mp, .int .i64 x2, .int .i64 n3, .int .i64 n4, .int .i64 n5, .int .i64 n6, .int .i64 n7, .int .i64 n8, .int .i64 n9, .bool lf, .bool tp] 55)).alloc (.cells #[.int .u8 0, .int .u8 0, .int .u8 0, .int .u8 0] 135)) none := gb_trans (World.grownBy_alloc _ _ _) (World.grownBy_alloc _ _ _)
  obtain ⟨hb, hhb⟩ : ∃ r, W.heap.size = r := ⟨_, rfl⟩
  rw [hhb] at hH hR ⊢
  have HHB := Lib.hid hhb
  generalize (W.alloc (.cells #[.int .i64 n0, .bool mp, .int .i64 x2, .int .i64 n3, .int .i64 n4, .int .i64 n5, .int .i64 n6, .int .i64 n7, .int .i64 n8, .int .i64 n9, .bool lf, .bool tp] 55)).alloc (.cells #[.int .u8 0, .int .u8 0, .int .u8 0, .int .u8 0] 135) = w0 at hH hR hG ⊢
  have HH := Lib.hid hH
  have HR := Lib.hid hR
  have HG := Lib.hid hG
  have hl0 := blk_lt hH
  have hl1 := blk_lt hR
  clear hH hR hG hhb
  refine (KP.out _).mono ?_
  rintro e w' ⟨rfl, rfl⟩
  have h0 : w0.cell? ⟨hb, 0, none⟩ = some (.int .i64 n0) := blk_cell HH.out 0
  have h1 : w0.cell? ⟨hb, 1, none⟩ = some (.bool mp) := blk_cell HH.out 1
  have h2 : w0.cell? ⟨hb, 2, none⟩ = some (.int .i64 x2) := blk_cell HH.out 2
  have h3 : w0.cell? ⟨hb, 3, none⟩ = some (.int .i64 n3) := blk_cell HH.out 3
  have h4 : w0.cell? ⟨hb, 4, none⟩ = some (.int .i64 n4) := blk_cell HH.out 4
  have h5 : w0.cell? ⟨hb, 5, none⟩ = some (.int .i64 n5) := blk_cell HH.out 5
  have h6 : w0.cell? ⟨hb, 6, none⟩ = some (.int .i64 n6) := blk_cell HH.out 6
  have h7 : w0.cell? ⟨hb, 7, none⟩ = some (.int .i64 n7) := blk_cell HH.out 7
  have h8 : w0.cell? ⟨hb, 8, none⟩ = some (.int .i64 n8) := blk_cell HH.out 8
  have h9 : w0.cell? ⟨hb, 9, none⟩ = some (.int .i64 n9) := blk_cell HH.out 9
  have h10 : w0.cell? ⟨hb, 10, none⟩ = some (.bool lf) := blk_cell HH.out 10
  have h11 : w0.cell? ⟨hb, 11, none⟩ = some (.bool tp) := blk_cell HH.out 11
  have r0 : w0.cell? ⟨hb + 1, 0, none⟩ = some (.int .u8 0) := blk_cell HR.out 0
  have rf0 := blk_free HR.out 0
  have r1 : w0.cell? ⟨hb + 1, 1, none⟩ = some (.int .u8 0) := blk_cell HR.out 1
  have rf1 := blk_free HR.out 1
  have r2 : w0.cell? ⟨hb + 1, 2, none⟩ = some (.int .u8 0) := blk_cell HR.out 2
  have rf2 := blk_free HR.out 2
  have r3 : w0.cell? ⟨hb + 1, 3, none⟩ = some (.int .u8 0) := blk_cell HR.out 3
  have rf3 := blk_free HR.out 3
  have hR1 := HR.out
  have HG1 := HG
  go_wp2_with fail
  try go_region
  have hl2 := blk_lt hR1
  have n1 : hb ≠ hb + 1 := by omega
  have n2 : hb + 1 ≠ hb := by omega
  go_wp2
  refine bodyPost_ret (v := .tuple #[.agg #[.int .u8 v, .int .u8 v, .int .u8 v, .int .u8 255], .bool true]) (by simp only [results, Tryz.results154]; go_simp) rfl ⟨rfl, ?_⟩
  have h1 := HHB.out
  repeat' first | with_reducible exact HG1.out | with_reducible refine gb_own ?_ (by omega) (gb_set _ _ _ _) | with_reducible refine gb_trans ?_ (gb_drew _ _) | with_reducible refine gb_trans ?_ (World.grownBy_alloc _ _ _)

end Go.Proofs.YtnieeckdldpebaaGreat.Tp
