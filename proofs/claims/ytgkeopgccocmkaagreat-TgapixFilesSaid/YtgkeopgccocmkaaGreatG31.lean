/- Texts of one kind, one behind the other: Tp9, TpA, TpB. -/
import Derived.Test.YtgkeopgccocmkaaGreatG07
import Derived.Test.YtgkeopgccocmkaaGreatG16
import Derived.Test.YtgkeopgccocmkaaGreatG26
import Derived.Test.YtgkeopgccocmkaaGreatG27
import Derived.Test.YtgkeopgccocmkaaGreatG28
import Derived.Test.YtgkeopgccocmkaaGreatG30
/- Layer 17: the document's Read of a map, walked (written by wip/gen/tp9.py). -/
namespace Go.Proofs.YtgkeopgccocmkaaGreat.Tp
open Go.ChangeShapes Go.WideShapes Go.ChangeAt Go.RowKit
open Go.Proofs.YtgkeopgccocmkaaGreat.Sc Go.Proofs.YtgkeopgccocmkaaGreat.Le Go.Proofs.YtgkeopgccocmkaaGreat.Pa Go.Proofs.YtgkeopgccocmkaaGreat.Tg
set_option linter.unusedVariables false

theorem bt_tail (s : ByteArray) (o j : Nat) (ho : o ≤ s.size) : bt (s.extract o s.size) j = bt s (o + j) := by
  unfold bt
  rw [Lib.extract_data, List.getD_eq_getElem?_getD, List.getD_eq_getElem?_getD, List.take_of_length_le (by rw [List.length_drop, ← Lib.size_eq]; omega), List.getElem?_drop]
theorem ent_tail (T : Nat) (s : ByteArray) (o q j : Nat) (ho : o ≤ s.size) : entAt T (s.extract o s.size) q j = entAt T s (o + q) j := by
  unfold entAt
  simp only [bt_tail s o _ ho]
  simp only [Nat.add_assoc]

/-- A row of one's own, entry by entry. -/
theorem own_cur {w : World} {base n c g : Nat} {D : Nat → Nat → Int} (h : w.ownsRow base 49 4 (.slice (some ⟨g, 0, none⟩) n c) n (cellsOf D n)) (hn : 0 < n) :
    ∃ cur, base ≤ g ∧ w.heap[g]? = some (.cells cur 49 (0, 0)) ∧ n ≤ c ∧ ∀ i, i < n → ∀ j, j < 4 → cur[i * 4 + j]? = some (.int .u8 (D i j)) := by
  rcases h.2 with ⟨_, h2⟩ | ⟨g', cap, cur, h1, hb, hg, hle, _, hsz, htk⟩
  · omega
  · simp at h1
    obtain ⟨rfl, rfl⟩ := h1
    refine ⟨cur, hb, hg, hle, fun i hi j hj => ?_⟩
    have h3 := cellsOf_at D n i j hi hj
    have h4 : (cellsOf D n)[i * 4 + j]? = cur.toList[i * 4 + j]? := by
      first
        | (rw [← htk, List.getElem?_take_of_lt (by omega)])
        | (rw [htk, List.getElem?_take_of_lt (by omega)])
    rw [h4] at h3
    simpa using h3
theorem ca_of {w : World} {g n : Nat} {cur : Array Value} {D : Nat → Nat → Int} (hb : w.heap[g]? = some (.cells cur 49 (0, 0))) (hc : ∀ i, i < n → ∀ j, j < 4 → cur[i * 4 + j]? = some (.int .u8 (D i j))) : ColsAt g 0 n D w := fun i hi j hj => by
  rw [Nat.zero_add, blk_cell hb (i * 4 + j)]
  exact hc i hi j hj
theorem blk_dr1 {w : World} {b : Nat} {x : Option Obj} (h : w.heap[b]? = x) : w.drew.heap[b]? = x := h

set_option maxRecDepth 100000 in
set_option maxHeartbeats 2000000 in
theorem rmap_no (mi n3 n5 n6 n7 n8 n9 : Int) (nm cnt x2 : Nat) (lf tp : Bool) (s : ByteArray) (W : World) (hm : s.size ≤ 1000000) (hn : nm ≤ 255) (hc : cnt ≤ 65535) (h : s.size < 18 + nm) :
    Calls Tryz.prog 10 #[.string s, .agg #[.int .i64 nm, .int .i64 mi, .int .i64 x2, .int .i64 n3, .int .i64 cnt, .int .i64 n5, .int .i64 n6, .int .i64 n7, .int .i64 n8, .int .i64 n9, .bool lf, .bool tp, .int .i64 0, .int .i64 0]] W (fun e w' => e = .returned (.agg #[.int .i64 0, .slice none 0 0, .int .i64 1, .int .i64 s.size]) ∧ W.grownBy w' none) := by
  have hw : IntKind.i64.wrap (18 + (nm : Int)) = 18 + (nm : Int) := IntWalk.i64_in _ (by omega)
  have d1 : (s.size : Int) < 18 + (nm : Int) := by omega
  go_enter Tryz.func10, Tryz.ntmps10
  go_wp2
  refine bodyPost_ret (v := .agg #[.int .i64 0, .slice none 0 0, .int .i64 1, .int .i64 s.size]) (by simp only [results, Tryz.results10]; go_simp) rfl ⟨rfl, gb_trans (World.grownBy_alloc _ _ _) (World.grownBy_alloc _ _ _)⟩

set_option maxRecDepth 100000 in
set_option maxHeartbeats 2000000 in
theorem rmap_none (n3 n5 n6 n7 n8 n9 : Int) (nm cnt x2 : Nat) (lf tp : Bool) (s : ByteArray) (W : World) (hm : s.size ≤ 1000000) (hn : nm ≤ 255) (hc : cnt ≤ 65535) (h : 18 + nm ≤ s.size) :
    Calls Tryz.prog 10 #[.string s, .agg #[.int .i64 nm, .int .i64 0, .int .i64 x2, .int .i64 n3, .int .i64 cnt, .int .i64 n5, .int .i64 n6, .int .i64 n7, .int .i64 n8, .int .i64 n9, .bool lf, .bool tp, .int .i64 0, .int .i64 0]] W (fun e w' => e = .returned (.agg #[.int .i64 ((18 + nm : Nat) : Int), .slice none 0 0, .int .i64 0, .int .i64 0]) ∧ W.grownBy w' none) := by
  have hw : IntKind.i64.wrap (18 + (nm : Int)) = 18 + (nm : Int) := IntWalk.i64_in _ (by omega)
  have d1 : ¬ (s.size : Int) < 18 + (nm : Int) := by omega
  go_enter Tryz.func10, Tryz.ntmps10
  rw [show ((18 + nm : Nat) : Int) = 18 + (nm : Int) from by omega]
  go_wp2
  refine bodyPost_ret (v := .agg #[.int .i64 (18 + (nm : Int)), .slice none 0 0, .int .i64 0, .int .i64 0]) (by simp only [results, Tryz.results10]; go_simp) rfl ⟨rfl, gb_trans (World.grownBy_alloc _ _ _) (World.grownBy_alloc _ _ _)⟩

set_option maxRecDepth 100000 in
set_option maxHeartbeats 2000000 in
theorem rmap_short (n3 n5 n6 n7 n8 n9 : Int) (nm cnt x2 : Nat) (lf tp : Bool) (s : ByteArray) (W : World) (hm : s.size ≤ 1000000) (hn : nm ≤ 255) (hc : cnt ≤ 65535) (h : 18 + nm ≤ s.size) (kd : Int) (sz m : Nat) (hz : (sz : Int) * (cnt : Int) = (m : Int)) (hm2 : m ≤ 1000000) (KK0 : ∀ u, Calls Tryz.prog 29 #[.int .i64 n5] u fun e w' => e = .returned (.int .i64 kd) ∧ u = w') (KZ0 : ∀ u, Calls Tryz.prog 30 #[.int .i64 kd] u fun e w' => e = .returned (.int .i64 sz) ∧ u = w') (h2 : s.size < 18 + nm + m) :
    Calls Tryz.prog 10 #[.string s, .agg #[.int .i64 nm, .int .i64 1, .int .i64 x2, .int .i64 n3, .int .i64 cnt, .int .i64 n5, .int .i64 n6, .int .i64 n7, .int .i64 n8, .int .i64 n9, .bool lf, .bool tp, .int .i64 0, .int .i64 0]] W (fun e w' => e = .returned (.agg #[.int .i64 0, .slice none 0 0, .int .i64 1, .int .i64 s.size]) ∧ W.grownBy w' none) := by
  have hw : IntKind.i64.wrap (18 + (nm : Int)) = 18 + (nm : Int) := IntWalk.i64_in _ (by omega)
  have d1 : ¬ (s.size : Int) < 18 + (nm : Int) := by omega
  have KK := Lib.hid KK0
  have KZ := Lib.hid KZ0
  have hw2 : IntKind.i64.wrap ((sz : Int) * (cnt : Int)) = m := by rw [hz]; exact IntWalk.i64_in _ (by omega)
  have hw3 : IntKind.i64.wrap ((s.size : Int) - (18 + (nm : Int))) = (s.size : Int) - (18 + (nm : Int)) := IntWalk.i64_in _ (by omega)
  have hw4 : IntKind.i64.wrap (18 + (nm : Int) + (m : Int)) = 18 + (nm : Int) + (m : Int) := IntWalk.i64_in _ (by omega)
  have d2 : (s.size : Int) - (18 + (nm : Int)) < (m : Int) := by omega
  clear hz KK0 KZ0
  go_enter Tryz.func10, Tryz.ntmps10
  go_wp2_with fail
  have hH : ((W.alloc (.cells #[.int .i64 nm, .int .i64 1, .int .i64 x2, .int .i64 n3, .int .i64 cnt, .int .i64 n5, .int .i64 n6, .int .i64 n7, .int .i64 n8, .int .i64 n9, .bool lf, .bool tp, .int .i64 0, .int .i64 0] 23)).alloc (.cells #[.int .i64 0, .slice none 0 0, .int .i64 0, .int .i64 0] 45)).heap[W.heap.size]? = some (.cells #[.int .i64 nm, .int .i64 1, .int .i64 x2, .int .i64 n3, .int .i64 cnt, .int .i64 n5, .int .i64 n6, .int .i64 n7, .int .i64 n8, .int .i64 n9, .bool lf, .bool tp, .int .i64 0, .int .i64 0] 23 (0, 0)) := blk_al blk_at _
  have hR : ((W.alloc (.cells #[.int .i64 nm, .int .i64 1, .int .i64 x2, .int .i64 n3, .int .i64 cnt, .int .i64 n5, .int .i64 n6, .int .i64 n7, .int .i64 n8, .int .i64 n9, .bool lf, .bool tp, .int .i64 0, .int .i64 0] 23)).alloc (.cells #[.int .i64 0, .slice none 0 0, .int .i64 0, .int .i64 0] 45)).heap[W.heap.size + 1]? = some (.cells #[.int .i64 0, .slice none 0 0, .int .i64 0, .int .i64 0] 45 (0, 0)) := by rw [← size_alloc W (.cells #[.int .i64 nm, .int .i64 1, .int .i64 x2, .int .i64 n3, .int .i64 cnt, .int .i64 n5, .int .i64 n6, .int .i64 n7, .int .i64 n8, .int .i64 n9, .bool lf, .bool tp, .int .i64 0, .int .i64 0] 23)]; exact blk_at
  have hG : W.grownBy ((W.alloc (.cells #[.int .i64 nm, .int .i64 1, .int .i64 x2, .int .i64 n3, .int .i64 cnt, .int .i64 n5, .int .i64 n6, .int .i64 n7, .int .i64 n8, .int .i64 n9, .bool lf, .bool tp, .int .i64 0, .int .i64 0] 23)).alloc (.cells #[.int .i64 0, .slice none 0 0, .int .i64 0, .int .i64 0] 45)) none := gb_trans (World.grownBy_alloc _ _ _) (World.grownBy_alloc _ _ _)
  obtain ⟨hb, hhb⟩ : ∃ r, W.heap.size = r := ⟨_, rfl⟩
  rw [hhb] at hH hR ⊢
  have HHB := Lib.hid hhb
  generalize (W.alloc (.cells #[.int .i64 nm, .int .i64 1, .int .i64 x2, .int .i64 n3, .int .i64 cnt, .int .i64 n5, .int .i64 n6, .int .i64 n7, .int .i64 n8, .int .i64 n9, .bool lf, .bool tp, .int .i64 0, .int .i64 0] 23)).alloc (.cells #[.int .i64 0, .slice none 0 0, .int .i64 0, .int .i64 0] 45) = w0 at hH hR hG ⊢
  have HH := Lib.hid hH
  have HR := Lib.hid hR
  have HG := Lib.hid hG
  have hl0 := blk_lt hH
  have hl1 := blk_lt hR
  clear hH hR hG hhb
  refine (KK.out _).mono ?_
  rintro e w' ⟨rfl, rfl⟩
  have h0 : w0.cell? ⟨hb, 0, none⟩ = some (.int .i64 nm) := blk_cell HH.out 0
  have h1 : w0.cell? ⟨hb, 1, none⟩ = some (.int .i64 1) := blk_cell HH.out 1
  have h2 : w0.cell? ⟨hb, 2, none⟩ = some (.int .i64 x2) := blk_cell HH.out 2
  have h3 : w0.cell? ⟨hb, 3, none⟩ = some (.int .i64 n3) := blk_cell HH.out 3
  have h4 : w0.cell? ⟨hb, 4, none⟩ = some (.int .i64 cnt) := blk_cell HH.out 4
  have h5 : w0.cell? ⟨hb, 5, none⟩ = some (.int .i64 n5) := blk_cell HH.out 5
  have h6 : w0.cell? ⟨hb, 6, none⟩ = some (.int .i64 n6) := blk_cell HH.out 6
  have h7 : w0.cell? ⟨hb, 7, none⟩ = some (.int .i64 n7) := blk_cell HH.out 7
  have h8 : w0.cell? ⟨hb, 8, none⟩ = some (.int .i64 n8) := blk_cell HH.out 8
  have h9 : w0.cell? ⟨hb, 9, none⟩ = some (.int .i64 n9) := blk_cell HH.out 9
  have h10 : w0.cell? ⟨hb, 10, none⟩ = some (.bool lf) := blk_cell HH.out 10
  have h11 : w0.cell? ⟨hb, 11, none⟩ = some (.bool tp) := blk_cell HH.out 11
  have h12 : w0.cell? ⟨hb, 12, none⟩ = some (.int .i64 0) := blk_cell HH.out 12
  have h13 : w0.cell? ⟨hb, 13, none⟩ = some (.int .i64 0) := blk_cell HH.out 13
  have r0 : w0.cell? ⟨hb + 1, 0, none⟩ = some (.int .i64 0) := blk_cell HR.out 0
  have rf0 := blk_free HR.out 0
  have r1 : w0.cell? ⟨hb + 1, 1, none⟩ = some (.slice none 0 0) := blk_cell HR.out 1
  have rf1 := blk_free HR.out 1
  have r2 : w0.cell? ⟨hb + 1, 2, none⟩ = some (.int .i64 0) := blk_cell HR.out 2
  have rf2 := blk_free HR.out 2
  have r3 : w0.cell? ⟨hb + 1, 3, none⟩ = some (.int .i64 0) := blk_cell HR.out 3
  have rf3 := blk_free HR.out 3
  go_wp2_with fail
  go_region_with (go_at_call 30; refine (KZ.out _).mono ?_; rintro e w' ⟨rfl, rfl⟩)
  all_goals
    have n1 : hb ≠ hb + 1 := by omega
    have n2 : hb + 1 ≠ hb := by omega
    go_wp2
    refine bodyPost_ret (v := .agg #[.int .i64 0, .slice none 0 0, .int .i64 1, .int .i64 s.size]) (by simp only [results, Tryz.results10]; go_simp) rfl ⟨rfl, ?_⟩
    have h1 := HHB.out
    repeat' first | with_reducible exact HG.out | with_reducible refine gb_own ?_ (by omega) (gb_set _ _ _ _) | with_reducible refine gb_trans ?_ (gb_drew _ _) | with_reducible refine gb_trans ?_ (World.grownBy_alloc _ _ _)

set_option maxRecDepth 100000 in
set_option maxHeartbeats 2000000 in
theorem rmap_over (n3 n5 n6 n7 n8 n9 : Int) (nm cnt x2 : Nat) (lf tp : Bool) (s : ByteArray) (W : World) (hm : s.size ≤ 1000000) (hn : nm ≤ 255) (hc : cnt ≤ 65535) (h : 18 + nm ≤ s.size) (kd : Int) (sz m : Nat) (hz : (sz : Int) * (cnt : Int) = (m : Int)) (hm2 : m ≤ 1000000) (KK0 : ∀ u, Calls Tryz.prog 29 #[.int .i64 n5] u fun e w' => e = .returned (.int .i64 kd) ∧ u = w') (KZ0 : ∀ u, Calls Tryz.prog 30 #[.int .i64 kd] u fun e w' => e = .returned (.int .i64 sz) ∧ u = w') (h2 : 18 + nm + m ≤ s.size) (e1 : ((x2 : Int) == 1) = false) (e9 : ((x2 : Int) == 9) = false) :
    Calls Tryz.prog 10 #[.string s, .agg #[.int .i64 nm, .int .i64 1, .int .i64 x2, .int .i64 n3, .int .i64 cnt, .int .i64 n5, .int .i64 n6, .int .i64 n7, .int .i64 n8, .int .i64 n9, .bool lf, .bool tp, .int .i64 0, .int .i64 0]] W (fun e w' => e = .returned (.agg #[.int .i64 ((18 + nm + m : Nat) : Int), .slice none 0 0, .int .i64 0, .int .i64 0]) ∧ W.grownBy w' none) := by
  have hw : IntKind.i64.wrap (18 + (nm : Int)) = 18 + (nm : Int) := IntWalk.i64_in _ (by omega)
  have d1 : ¬ (s.size : Int) < 18 + (nm : Int) := by omega
  have KK := Lib.hid KK0
  have KZ := Lib.hid KZ0
  have hw2 : IntKind.i64.wrap ((sz : Int) * (cnt : Int)) = m := by rw [hz]; exact IntWalk.i64_in _ (by omega)
  have hw3 : IntKind.i64.wrap ((s.size : Int) - (18 + (nm : Int))) = (s.size : Int) - (18 + (nm : Int)) := IntWalk.i64_in _ (by omega)
  have hw4 : IntKind.i64.wrap (18 + (nm : Int) + (m : Int)) = 18 + (nm : Int) + (m : Int) := IntWalk.i64_in _ (by omega)
  have d2 : ¬ (s.size : Int) - (18 + (nm : Int)) < (m : Int) := by omega
  rw [show ((18 + nm + m : Nat) : Int) = 18 + (nm : Int) + (m : Int) from by omega]
  clear hz KK0 KZ0
  go_enter Tryz.func10, Tryz.ntmps10
  go_wp2_with fail
  have hH : ((W.alloc (.cells #[.int .i64 nm, .int .i64 1, .int .i64 x2, .int .i64 n3, .int .i64 cnt, .int .i64 n5, .int .i64 n6, .int .i64 n7, .int .i64 n8, .int .i64 n9, .bool lf, .bool tp, .int .i64 0, .int .i64 0] 23)).alloc (.cells #[.int .i64 0, .slice none 0 0, .int .i64 0, .int .i64 0] 45)).heap[W.heap.size]? = some (.cells #[.int .i64 nm, .int .i64 1, .int .i64 x2, .int .i64 n3, .int .i64 cnt, .int .i64 n5, .int .i64 n6, .int .i64 n7, .int .i64 n8, .int .i64 n9, .bool lf, .bool tp, .int .i64 0, .int .i64 0] 23 (0, 0)) := blk_al blk_at _
  have hR : ((W.alloc (.cells #[.int .i64 nm, .int .i64 1, .int .i64 x2, .int .i64 n3, .int .i64 cnt, .int .i64 n5, .int .i64 n6, .int .i64 n7, .int .i64 n8, .int .i64 n9, .bool lf, .bool tp, .int .i64 0, .int .i64 0] 23)).alloc (.cells #[.int .i64 0, .slice none 0 0, .int .i64 0, .int .i64 0] 45)).heap[W.heap.size + 1]? = some (.cells #[.int .i64 0, .slice none 0 0, .int .i64 0, .int .i64 0] 45 (0, 0)) := by rw [← size_alloc W (.cells #[.int .i64 nm, .int .i64 1, .int .i64 x2, .int .i64 n3, .int .i64 cnt, .int .i64 n5, .int .i64 n6, .int .i64 n7, .int .i64 n8, .int .i64 n9, .bool lf, .bool tp, .int .i64 0, .int .i64 0] 23)]; exact blk_at
  have hG : W.grownBy ((W.alloc (.cells #[.int .i64 nm, .int .i64 1, .int .i64 x2, .int .i64 n3, .int .i64 cnt, .int .i64 n5, .int .i64 n6, .int .i64 n7, .int .i64 n8, .int .i64 n9, .bool lf, .bool tp, .int .i64 0, .int .i64 0] 23)).alloc (.cells #[.int .i64 0, .slice none 0 0, .int .i64 0, .int .i64 0] 45)) none := gb_trans (World.grownBy_alloc _ _ _) (World.grownBy_alloc _ _ _)
  obtain ⟨hb, hhb⟩ : ∃ r, W.heap.size = r := ⟨_, rfl⟩
  rw [hhb] at hH hR ⊢
  have HHB := Lib.hid hhb
  generalize (W.alloc (.cells #[.int .i64 nm, .int .i64 1, .int .i64 x2, .int .i64 n3, .int .i64 cnt, .int .i64 n5, .int .i64 n6, .int .i64 n7, .int .i64 n8, .int .i64 n9, .bool lf, .bool tp, .int .i64 0, .int .i64 0] 23)).alloc (.cells #[.int .i64 0, .slice none 0 0, .int .i64 0, .int .i64 0] 45) = w0 at hH hR hG ⊢
  have HH := Lib.hid hH
  have HR := Lib.hid hR
  have HG := Lib.hid hG
  have hl0 := blk_lt hH
  have hl1 := blk_lt hR
  clear hH hR hG hhb
  refine (KK.out _).mono ?_
  rintro e w' ⟨rfl, rfl⟩
  have h0 : w0.cell? ⟨hb, 0, none⟩ = some (.int .i64 nm) := blk_cell HH.out 0
  have h1 : w0.cell? ⟨hb, 1, none⟩ = some (.int .i64 1) := blk_cell HH.out 1
  have h2 : w0.cell? ⟨hb, 2, none⟩ = some (.int .i64 x2) := blk_cell HH.out 2
  have h3 : w0.cell? ⟨hb, 3, none⟩ = some (.int .i64 n3) := blk_cell HH.out 3
  have h4 : w0.cell? ⟨hb, 4, none⟩ = some (.int .i64 cnt) := blk_cell HH.out 4
  have h5 : w0.cell? ⟨hb, 5, none⟩ = some (.int .i64 n5) := blk_cell HH.out 5
  have h6 : w0.cell? ⟨hb, 6, none⟩ = some (.int .i64 n6) := blk_cell HH.out 6
  have h7 : w0.cell? ⟨hb, 7, none⟩ = some (.int .i64 n7) := blk_cell HH.out 7
  have h8 : w0.cell? ⟨hb, 8, none⟩ = some (.int .i64 n8) := blk_cell HH.out 8
  have h9 : w0.cell? ⟨hb, 9, none⟩ = some (.int .i64 n9) := blk_cell HH.out 9
  have h10 : w0.cell? ⟨hb, 10, none⟩ = some (.bool lf) := blk_cell HH.out 10
  have h11 : w0.cell? ⟨hb, 11, none⟩ = some (.bool tp) := blk_cell HH.out 11
  have h12 : w0.cell? ⟨hb, 12, none⟩ = some (.int .i64 0) := blk_cell HH.out 12
  have h13 : w0.cell? ⟨hb, 13, none⟩ = some (.int .i64 0) := blk_cell HH.out 13
  have r0 : w0.cell? ⟨hb + 1, 0, none⟩ = some (.int .i64 0) := blk_cell HR.out 0
  have rf0 := blk_free HR.out 0
  have r1 : w0.cell? ⟨hb + 1, 1, none⟩ = some (.slice none 0 0) := blk_cell HR.out 1
  have rf1 := blk_free HR.out 1
  have r2 : w0.cell? ⟨hb + 1, 2, none⟩ = some (.int .i64 0) := blk_cell HR.out 2
  have rf2 := blk_free HR.out 2
  have r3 : w0.cell? ⟨hb + 1, 3, none⟩ = some (.int .i64 0) := blk_cell HR.out 3
  have rf3 := blk_free HR.out 3
  go_wp2_with fail
  go_region_with (go_at_call 30; refine (KZ.out _).mono ?_; rintro e w' ⟨rfl, rfl⟩)
  all_goals
    have n1 : hb ≠ hb + 1 := by omega
    have n2 : hb + 1 ≠ hb := by omega
    go_wp2
    refine bodyPost_ret (v := .agg #[.int .i64 (18 + (nm : Int) + (m : Int)), .slice none 0 0, .int .i64 0, .int .i64 0]) (by simp only [results, Tryz.results10]; go_simp) rfl ⟨rfl, ?_⟩
    have h1 := HHB.out
    repeat' first | with_reducible exact HG.out | with_reducible refine gb_own ?_ (by omega) (gb_set _ _ _ _) | with_reducible refine gb_trans ?_ (gb_drew _ _) | with_reducible refine gb_trans ?_ (World.grownBy_alloc _ _ _)

set_option maxRecDepth 100000 in
set_option maxHeartbeats 2000000 in
theorem rmap_in1 (n3 n5 n6 n7 n8 n9 : Int) (nm cnt : Nat) (lf tp : Bool) (s : ByteArray) (W : World) (hm : s.size ≤ 1000000) (hn : nm ≤ 255) (hc : cnt ≤ 65535) (T : Nat) (D : Nat → Nat → Int) (h : 18 + nm ≤ s.size) (kd : Int) (sz m : Nat) (hz : (sz : Int) * (cnt : Int) = (m : Int)) (hm2 : m ≤ 1000000) (KK0 : ∀ u, Calls Tryz.prog 29 #[.int .i64 n5] u fun e w' => e = .returned (.int .i64 kd) ∧ u = w') (KZ0 : ∀ u, Calls Tryz.prog 30 #[.int .i64 kd] u fun e w' => e = .returned (.int .i64 sz) ∧ u = w') (h2 : 18 + nm + m ≤ s.size) (hc1 : 1 ≤ cnt) (hD : ∀ i, i < cnt → ∀ j, j < 4 → D i j = entAt T s (18 + nm + i * sz) j) (KD0 : ∀ u, Calls Tryz.prog 31 #[.string (s.extract (18 + nm) s.size), .int .i64 cnt, .int .i64 kd] u (RReadPost u T sz cnt (s.extract (18 + nm) s.size))) :
    Calls Tryz.prog 10 #[.string s, .agg #[.int .i64 nm, .int .i64 1, .int .i64 1, .int .i64 n3, .int .i64 cnt, .int .i64 n5, .int .i64 n6, .int .i64 n7, .int .i64 n8, .int .i64 n9, .bool lf, .bool tp, .int .i64 0, .int .i64 0]] W (fun e w' => ∃ g cap, e = .returned (.agg #[.int .i64 ((18 + nm + m : Nat) : Int), .slice (some ⟨g, 0, none⟩) cnt cap, .int .i64 0, .int .i64 0]) ∧ ColsAt g 0 cnt D w' ∧ cnt ≤ cap ∧ W.heap.size ≤ g ∧ W.grownBy w' none) := by
  have hw : IntKind.i64.wrap (18 + (nm : Int)) = 18 + (nm : Int) := IntWalk.i64_in _ (by omega)
  have d1 : ¬ (s.size : Int) < 18 + (nm : Int) := by omega
  have KK := Lib.hid KK0
  have KZ := Lib.hid KZ0
  have hw2 : IntKind.i64.wrap ((sz : Int) * (cnt : Int)) = m := by rw [hz]; exact IntWalk.i64_in _ (by omega)
  have hw3 : IntKind.i64.wrap ((s.size : Int) - (18 + (nm : Int))) = (s.size : Int) - (18 + (nm : Int)) := IntWalk.i64_in _ (by omega)
  have hw4 : IntKind.i64.wrap (18 + (nm : Int) + (m : Int)) = 18 + (nm : Int) + (m : Int) := IntWalk.i64_in _ (by omega)
  have d2 : ¬ (s.size : Int) - (18 + (nm : Int)) < (m : Int) := by omega
  rw [show ((18 + nm + m : Nat) : Int) = 18 + (nm : Int) + (m : Int) from by omega]
  have HD := Lib.hid hD
  have HV := Lib.hid (show ∀ q j, entAt T (s.extract (18 + nm) s.size) q j = entAt T s (18 + nm + q) j from fun q j => ent_tail T s (18 + nm) q j h)
  have hsl := fun u => tail_at s (18 + nm) h u
  rw [show ((18 + nm : Nat) : Int) = 18 + (nm : Int) from by omega] at hsl
  obtain ⟨v, hv⟩ : ∃ v, s.extract (18 + nm) s.size = v := ⟨_, rfl⟩
  rw [hv] at KD0 HV
  simp only [hv] at hsl
  have KD := Lib.hid KD0
  clear hz KK0 KZ0 KD0 hD hv
  go_enter Tryz.func10, Tryz.ntmps10
  go_wp2_with fail
  have hH : ((W.alloc (.cells #[.int .i64 nm, .int .i64 1, .int .i64 1, .int .i64 n3, .int .i64 cnt, .int .i64 n5, .int .i64 n6, .int .i64 n7, .int .i64 n8, .int .i64 n9, .bool lf, .bool tp, .int .i64 0, .int .i64 0] 23)).alloc (.cells #[.int .i64 0, .slice none 0 0, .int .i64 0, .int .i64 0] 45)).heap[W.heap.size]? = some (.cells #[.int .i64 nm, .int .i64 1, .int .i64 1, .int .i64 n3, .int .i64 cnt, .int .i64 n5, .int .i64 n6, .int .i64 n7, .int .i64 n8, .int .i64 n9, .bool lf, .bool tp, .int .i64 0, .int .i64 0] 23 (0, 0)) := blk_al blk_at _
  have hR : ((W.alloc (.cells #[.int .i64 nm, .int .i64 1, .int .i64 1, .int .i64 n3, .int .i64 cnt, .int .i64 n5, .int .i64 n6, .int .i64 n7, .int .i64 n8, .int .i64 n9, .bool lf, .bool tp, .int .i64 0, .int .i64 0] 23)).alloc (.cells #[.int .i64 0, .slice none 0 0, .int .i64 0, .int .i64 0] 45)).heap[W.heap.size + 1]? = some (.cells #[.int .i64 0, .slice none 0 0, .int .i64 0, .int .i64 0] 45 (0, 0)) := by rw [← size_alloc W (.cells #[.int .i64 nm, .int .i64 1, .int .i64 1, .int .i64 n3, .int .i64 cnt, .int .i64 n5, .int .i64 n6, .int .i64 n7, .int .i64 n8, .int .i64 n9, .bool lf, .bool tp, .int .i64 0, .int .i64 0] 23)]; exact blk_at
  have hG : W.grownBy ((W.alloc (.cells #[.int .i64 nm, .int .i64 1, .int .i64 1, .int .i64 n3, .int .i64 cnt, .int .i64 n5, .int .i64 n6, .int .i64 n7, .int .i64 n8, .int .i64 n9, .bool lf, .bool tp, .int .i64 0, .int .i64 0] 23)).alloc (.cells #[.int .i64 0, .slice none 0 0, .int .i64 0, .int .i64 0] 45)) none := gb_trans (World.grownBy_alloc _ _ _) (World.grownBy_alloc _ _ _)
  obtain ⟨hb, hhb⟩ : ∃ r, W.heap.size = r := ⟨_, rfl⟩
  rw [hhb] at hH hR ⊢
  have HHB := Lib.hid hhb
  generalize (W.alloc (.cells #[.int .i64 nm, .int .i64 1, .int .i64 1, .int .i64 n3, .int .i64 cnt, .int .i64 n5, .int .i64 n6, .int .i64 n7, .int .i64 n8, .int .i64 n9, .bool lf, .bool tp, .int .i64 0, .int .i64 0] 23)).alloc (.cells #[.int .i64 0, .slice none 0 0, .int .i64 0, .int .i64 0] 45) = w0 at hH hR hG ⊢
  have HH := Lib.hid hH
  have HR := Lib.hid hR
  have HG := Lib.hid hG
  have hl0 := blk_lt hH
  have hl1 := blk_lt hR
  clear hH hR hG hhb
  refine (KK.out _).mono ?_
  rintro e w' ⟨rfl, rfl⟩
  have h0 : w0.cell? ⟨hb, 0, none⟩ = some (.int .i64 nm) := blk_cell HH.out 0
  have h1 : w0.cell? ⟨hb, 1, none⟩ = some (.int .i64 1) := blk_cell HH.out 1
  have h2 : w0.cell? ⟨hb, 2, none⟩ = some (.int .i64 1) := blk_cell HH.out 2
  have h3 : w0.cell? ⟨hb, 3, none⟩ = some (.int .i64 n3) := blk_cell HH.out 3
  have h4 : w0.cell? ⟨hb, 4, none⟩ = some (.int .i64 cnt) := blk_cell HH.out 4
  have h5 : w0.cell? ⟨hb, 5, none⟩ = some (.int .i64 n5) := blk_cell HH.out 5
  have h6 : w0.cell? ⟨hb, 6, none⟩ = some (.int .i64 n6) := blk_cell HH.out 6
  have h7 : w0.cell? ⟨hb, 7, none⟩ = some (.int .i64 n7) := blk_cell HH.out 7
  have h8 : w0.cell? ⟨hb, 8, none⟩ = some (.int .i64 n8) := blk_cell HH.out 8
  have h9 : w0.cell? ⟨hb, 9, none⟩ = some (.int .i64 n9) := blk_cell HH.out 9
  have h10 : w0.cell? ⟨hb, 10, none⟩ = some (.bool lf) := blk_cell HH.out 10
  have h11 : w0.cell? ⟨hb, 11, none⟩ = some (.bool tp) := blk_cell HH.out 11
  have h12 : w0.cell? ⟨hb, 12, none⟩ = some (.int .i64 0) := blk_cell HH.out 12
  have h13 : w0.cell? ⟨hb, 13, none⟩ = some (.int .i64 0) := blk_cell HH.out 13
  have r0 : w0.cell? ⟨hb + 1, 0, none⟩ = some (.int .i64 0) := blk_cell HR.out 0
  have rf0 := blk_free HR.out 0
  have r1 : w0.cell? ⟨hb + 1, 1, none⟩ = some (.slice none 0 0) := blk_cell HR.out 1
  have rf1 := blk_free HR.out 1
  have r2 : w0.cell? ⟨hb + 1, 2, none⟩ = some (.int .i64 0) := blk_cell HR.out 2
  have rf2 := blk_free HR.out 2
  have r3 : w0.cell? ⟨hb + 1, 3, none⟩ = some (.int .i64 0) := blk_cell HR.out 3
  have rf3 := blk_free HR.out 3
  go_wp2_with fail
  go_region_with (go_at_call 30; refine (KZ.out _).mono ?_; rintro e w' ⟨rfl, rfl⟩)
  all_goals
    go_upto_region 12 with fail
    have hO : ((w0.alloc (.cells #[.int .i64 (18 + (nm : Int) + (m : Int)), .slice none 0 0, .int .i64 0, .int .i64 0] 45)).drew).heap[w0.heap.size]? = some (.cells #[.int .i64 (18 + (nm : Int) + (m : Int)), .slice none 0 0, .int .i64 0, .int .i64 0] 45 (0, 0)) := blk_at
    have hH1 : ((w0.alloc (.cells #[.int .i64 (18 + (nm : Int) + (m : Int)), .slice none 0 0, .int .i64 0, .int .i64 0] 45)).drew).heap[hb]? = some (.cells #[.int .i64 nm, .int .i64 1, .int .i64 1, .int .i64 n3, .int .i64 cnt, .int .i64 n5, .int .i64 n6, .int .i64 n7, .int .i64 n8, .int .i64 n9, .bool lf, .bool tp, .int .i64 0, .int .i64 0] 23 (0, 0)) := blk_al HH.out _
    have hR1 : ((w0.alloc (.cells #[.int .i64 (18 + (nm : Int) + (m : Int)), .slice none 0 0, .int .i64 0, .int .i64 0] 45)).drew).heap[hb + 1]? = some (.cells #[.int .i64 0, .slice none 0 0, .int .i64 0, .int .i64 0] 45 (0, 0)) := blk_al HR.out _
    have HG1 := Lib.hid (show W.grownBy ((w0.alloc (.cells #[.int .i64 (18 + (nm : Int) + (m : Int)), .slice none 0 0, .int .i64 0, .int .i64 0] 45)).drew) none from gb_trans HG.out (gb_trans (World.grownBy_alloc w0 _ none) (gb_drew _ _)))
    obtain ⟨q, hq⟩ : ∃ q, w0.heap.size = q := ⟨_, rfl⟩
    have hqs : hb + 1 < q := by omega
    rw [hq] at hO ⊢
    generalize (w0.alloc (.cells #[.int .i64 (18 + (nm : Int) + (m : Int)), .slice none 0 0, .int .i64 0, .int .i64 0] 45)).drew = w1 at hO hH1 hR1 HG1 ⊢
    have HO1 := Lib.hid hO
    have HR1 := Lib.hid hR1
    have HH1 := Lib.hid hH1
    clear hO hR1 hH1 hq HH HR HG h0 h1 h2 h3 h4 h5 h6 h7 h8 h9 h10 h11 h12 h13 r0 rf0 r1 rf1 r2 rf2 r3 rf3 hl0 hl1
    have h0 : w1.cell? ⟨hb, 0, none⟩ = some (.int .i64 nm) := blk_cell HH1.out 0
    have h1 : w1.cell? ⟨hb, 1, none⟩ = some (.int .i64 1) := blk_cell HH1.out 1
    have h2 : w1.cell? ⟨hb, 2, none⟩ = some (.int .i64 1) := blk_cell HH1.out 2
    have h3 : w1.cell? ⟨hb, 3, none⟩ = some (.int .i64 n3) := blk_cell HH1.out 3
    have h4 : w1.cell? ⟨hb, 4, none⟩ = some (.int .i64 cnt) := blk_cell HH1.out 4
    have h5 : w1.cell? ⟨hb, 5, none⟩ = some (.int .i64 n5) := blk_cell HH1.out 5
    have h6 : w1.cell? ⟨hb, 6, none⟩ = some (.int .i64 n6) := blk_cell HH1.out 6
    have h7 : w1.cell? ⟨hb, 7, none⟩ = some (.int .i64 n7) := blk_cell HH1.out 7
    have h8 : w1.cell? ⟨hb, 8, none⟩ = some (.int .i64 n8) := blk_cell HH1.out 8
    have h9 : w1.cell? ⟨hb, 9, none⟩ = some (.int .i64 n9) := blk_cell HH1.out 9
    have h10 : w1.cell? ⟨hb, 10, none⟩ = some (.bool lf) := blk_cell HH1.out 10
    have h11 : w1.cell? ⟨hb, 11, none⟩ = some (.bool tp) := blk_cell HH1.out 11
    have h12 : w1.cell? ⟨hb, 12, none⟩ = some (.int .i64 0) := blk_cell HH1.out 12
    have h13 : w1.cell? ⟨hb, 13, none⟩ = some (.int .i64 0) := blk_cell HH1.out 13
    have r0 : w1.cell? ⟨hb + 1, 0, none⟩ = some (.int .i64 0) := blk_cell HR1.out 0
    have rf0 := blk_free HR1.out 0
    have r1 : w1.cell? ⟨hb + 1, 1, none⟩ = some (.slice none 0 0) := blk_cell HR1.out 1
    have rf1 := blk_free HR1.out 1
    have r2 : w1.cell? ⟨hb + 1, 2, none⟩ = some (.int .i64 0) := blk_cell HR1.out 2
    have rf2 := blk_free HR1.out 2
    have r3 : w1.cell? ⟨hb + 1, 3, none⟩ = some (.int .i64 0) := blk_cell HR1.out 3
    have rf3 := blk_free HR1.out 3
    have lt1 := blk_lt HH1.out
    go_wp2_with fail
    go_region_with (go_at_call 31; refine (KD.out _).mono ?_; rintro e w2 ⟨g, cap, rfl, own, g2⟩; have HOW := Lib.hid own; have HG2 := Lib.hid (show W.grownBy w2 none from by first | exact gb_trans HG1.out g2 | exact gb_trans (gb_trans HG1.out (gb_drew _ _)) g2); have hO2 : w2.heap[q]? = some (.cells #[.int .i64 (18 + (nm : Int) + (m : Int)), .slice none 0 0, .int .i64 0, .int .i64 0] 45 (0, 0)) := (by first | exact old0 g2 HO1.out (blk_lt HO1.out) (by simp) | exact old0 g2 (blk_dr1 HO1.out) (blk_lt (blk_dr1 HO1.out)) (by simp)); have hR2 : w2.heap[hb + 1]? = some (.cells #[.int .i64 0, .slice none 0 0, .int .i64 0, .int .i64 0] 45 (0, 0)) := (by first | exact old0 g2 HR1.out (blk_lt HR1.out) (by simp) | exact old0 g2 (blk_dr1 HR1.out) (blk_lt (blk_dr1 HR1.out)) (by simp)); have hgs : q < w1.heap.size := blk_lt HO1.out; have y0 : w2.cell? ⟨hb + 1, 0, none⟩ = some (.int .i64 0) := blk_cell hR2 0; have yf0 := blk_free hR2 0; have y1 : w2.cell? ⟨hb + 1, 1, none⟩ = some (.slice none 0 0) := blk_cell hR2 1; have yf1 := blk_free hR2 1; have y2 : w2.cell? ⟨hb + 1, 2, none⟩ = some (.int .i64 0) := blk_cell hR2 2; have yf2 := blk_free hR2 2; have y3 : w2.cell? ⟨hb + 1, 3, none⟩ = some (.int .i64 0) := blk_cell hR2 3; have yf3 := blk_free hR2 3; have z0 : w2.cell? ⟨q, 0, none⟩ = some (.int .i64 (18 + (nm : Int) + (m : Int))) := blk_cell hO2 0; have zf0 := blk_free hO2 0; have z1 : w2.cell? ⟨q, 1, none⟩ = some (.slice none 0 0) := blk_cell hO2 1; have zf1 := blk_free hO2 1; have z2 : w2.cell? ⟨q, 2, none⟩ = some (.int .i64 0) := blk_cell hO2 2; have zf2 := blk_free hO2 2; have z3 : w2.cell? ⟨q, 3, none⟩ = some (.int .i64 0) := blk_cell hO2 3; have zf3 := blk_free hO2 3; have lt2 := blk_lt hR2; have lt3 := blk_lt hO2)
    all_goals
      obtain ⟨cur, gb0, HGB0, hcap, HCU0⟩ := own_cur HOW.out (by omega)
      have gb' : w1.heap.size ≤ g := gb0
      have HGB := Lib.hid HGB0
      have HCU := Lib.hid (show ∀ i, i < cnt → ∀ j, j < 4 → cur[i * 4 + j]? = some (.int .u8 (D i j)) from fun i hi j hj => by rw [HCU0 i hi j hj, HV.out, HD.out i hi j hj])
      have n1 : q ≠ hb + 1 := by omega
      have n2 : hb + 1 ≠ q := by omega
      clear HGB0 HCU0 gb0 HOW HH1 HR1 HO1 HD HV
      go_wp2
      refine bodyPost_ret (v := .agg #[.int .i64 (18 + (nm : Int) + (m : Int)), .slice (some ⟨g, 0, none⟩) cnt cap, .int .i64 0, .int .i64 0]) (by simp only [results, Tryz.results10]; go_simp) rfl ⟨g, cap, rfl, ca_of (cur := cur) ?_ HCU.out, hcap, by have := HG1.out.size; omega, ?_⟩
      · repeat' first | with_reducible exact HGB.out | with_reducible refine blk_other ?_ (by omega) | with_reducible refine blk_dr1 ?_ | with_reducible refine blk_al ?_ _
      · have h1 := HHB.out
        repeat' first | with_reducible exact HG2.out | with_reducible refine gb_own ?_ (by omega) (gb_set _ _ _ _) | with_reducible refine gb_trans ?_ (gb_drew _ _) | with_reducible refine gb_trans ?_ (World.grownBy_alloc _ _ _)

set_option maxRecDepth 100000 in
set_option maxHeartbeats 2000000 in
theorem rmap_in9 (n3 n5 n6 n7 n8 n9 : Int) (nm cnt : Nat) (lf tp : Bool) (s : ByteArray) (W : World) (hm : s.size ≤ 1000000) (hn : nm ≤ 255) (hc : cnt ≤ 65535) (T : Nat) (D : Nat → Nat → Int) (h : 18 + nm ≤ s.size) (kd : Int) (sz m : Nat) (hz : (sz : Int) * (cnt : Int) = (m : Int)) (hm2 : m ≤ 1000000) (KK0 : ∀ u, Calls Tryz.prog 29 #[.int .i64 n5] u fun e w' => e = .returned (.int .i64 kd) ∧ u = w') (KZ0 : ∀ u, Calls Tryz.prog 30 #[.int .i64 kd] u fun e w' => e = .returned (.int .i64 sz) ∧ u = w') (h2 : 18 + nm + m ≤ s.size) (hc1 : 1 ≤ cnt) (hD : ∀ i, i < cnt → ∀ j, j < 4 → D i j = entAt T s (18 + nm + i * sz) j) (KD0 : ∀ u, Calls Tryz.prog 31 #[.string (s.extract (18 + nm) s.size), .int .i64 cnt, .int .i64 kd] u (RReadPost u T sz cnt (s.extract (18 + nm) s.size))) :
    Calls Tryz.prog 10 #[.string s, .agg #[.int .i64 nm, .int .i64 1, .int .i64 9, .int .i64 n3, .int .i64 cnt, .int .i64 n5, .int .i64 n6, .int .i64 n7, .int .i64 n8, .int .i64 n9, .bool lf, .bool tp, .int .i64 0, .int .i64 0]] W (fun e w' => ∃ g cap, e = .returned (.agg #[.int .i64 ((18 + nm + m : Nat) : Int), .slice (some ⟨g, 0, none⟩) cnt cap, .int .i64 0, .int .i64 0]) ∧ ColsAt g 0 cnt D w' ∧ cnt ≤ cap ∧ W.heap.size ≤ g ∧ W.grownBy w' none) := by
  have hw : IntKind.i64.wrap (18 + (nm : Int)) = 18 + (nm : Int) := IntWalk.i64_in _ (by omega)
  have d1 : ¬ (s.size : Int) < 18 + (nm : Int) := by omega
  have KK := Lib.hid KK0
  have KZ := Lib.hid KZ0
  have hw2 : IntKind.i64.wrap ((sz : Int) * (cnt : Int)) = m := by rw [hz]; exact IntWalk.i64_in _ (by omega)
  have hw3 : IntKind.i64.wrap ((s.size : Int) - (18 + (nm : Int))) = (s.size : Int) - (18 + (nm : Int)) := IntWalk.i64_in _ (by omega)
  have hw4 : IntKind.i64.wrap (18 + (nm : Int) + (m : Int)) = 18 + (nm : Int) + (m : Int) := IntWalk.i64_in _ (by omega)
  have d2 : ¬ (s.size : Int) - (18 + (nm : Int)) < (m : Int) := by omega
  rw [show ((18 + nm + m : Nat) : Int) = 18 + (nm : Int) + (m : Int) from by omega]
  have HD := Lib.hid hD
  have HV := Lib.hid (show ∀ q j, entAt T (s.extract (18 + nm) s.size) q j = entAt T s (18 + nm + q) j from fun q j => ent_tail T s (18 + nm) q j h)
  have hsl := fun u => tail_at s (18 + nm) h u
  rw [show ((18 + nm : Nat) : Int) = 18 + (nm : Int) from by omega] at hsl
  obtain ⟨v, hv⟩ : ∃ v, s.extract (18 + nm) s.size = v := ⟨_, rfl⟩
  rw [hv] at KD0 HV
  simp only [hv] at hsl
  have KD := Lib.hid KD0
  clear hz KK0 KZ0 KD0 hD hv
  go_enter Tryz.func10, Tryz.ntmps10
  go_wp2_with fail
  have hH : ((W.alloc (.cells #[.int .i64 nm, .int .i64 1, .int .i64 9, .int .i64 n3, .int .i64 cnt, .int .i64 n5, .int .i64 n6, .int .i64 n7, .int .i64 n8, .int .i64 n9, .bool lf, .bool tp, .int .i64 0, .int .i64 0] 23)).alloc (.cells #[.int .i64 0, .slice none 0 0, .int .i64 0, .int .i64 0] 45)).heap[W.heap.size]? = some (.cells #[.int .i64 nm, .int .i64 1, .int .i64 9, .int .i64 n3, .int .i64 cnt, .int .i64 n5, .int .i64 n6, .int .i64 n7, .int .i64 n8, .int .i64 n9, .bool lf, .bool tp, .int .i64 0, .int .i64 0] 23 (0, 0)) := blk_al blk_at _
  have hR : ((W.alloc (.cells #[.int .i64 nm, .int .i64 1, .int .i64 9, .int .i64 n3, .int .i64 cnt, .int .i64 n5, .int .i64 n6, .int .i64 n7, .int .i64 n8, .int .i64 n9, .bool lf, .bool tp, .int .i64 0, .int .i64 0] 23)).alloc (.cells #[.int .i64 0, .slice none 0 0, .int .i64 0, .int .i64 0] 45)).heap[W.heap.size + 1]? = some (.cells #[.int .i64 0, .slice none 0 0, .int .i64 0, .int .i64 0] 45 (0, 0)) := by rw [← size_alloc W (.cells #[.int .i64 nm, .int .i64 1, .int .i64 9, .int .i64 n3, .int .i64 cnt, .int .i64 n5, .int .i64 n6, .int .i64 n7, .int .i64 n8, .int .i64 n9, .bool lf, .bool tp, .int .i64 0, .int .i64 0] 23)]; exact blk_at
  have hG : W.grownBy ((W.alloc (.cells #[.int .i64 nm, .int .i64 1, .int .i64 9, .int .i64 n3, .int .i64 cnt, .int .i64 n5, .int .i64 n6, .int .i64 n7, .int .i64 n8, .int .i64 n9, .bool lf, .bool tp, .int .i64 0, .int .i64 0] 23)).alloc (.cells #[.int .i64 0, .slice none 0 0, .int .i64 0, .int .i64 0] 45)) none := gb_trans (World.grownBy_alloc _ _ _) (World.grownBy_alloc _ _ _)
  obtain ⟨hb, hhb⟩ : ∃ r, W.heap.size = r := ⟨_, rfl⟩
  rw [hhb] at hH hR ⊢
  have HHB := Lib.hid hhb
  generalize (W.alloc (.cells #[.int .i64 nm, .int .i64 1, .int .i64 9, .int .i64 n3, .int .i64 cnt, .int .i64 n5, .int .i64 n6, .int .i64 n7, .int .i64 n8, .int .i64 n9, .bool lf, .bool tp, .int .i64 0, .int .i64 0] 23)).alloc (.cells #[.int .i64 0, .slice none 0 0, .int .i64 0, .int .i64 0] 45) = w0 at hH hR hG ⊢
  have HH := Lib.hid hH
  have HR := Lib.hid hR
  have HG := Lib.hid hG
  have hl0 := blk_lt hH
  have hl1 := blk_lt hR
  clear hH hR hG hhb
  refine (KK.out _).mono ?_
  rintro e w' ⟨rfl, rfl⟩
  have h0 : w0.cell? ⟨hb, 0, none⟩ = some (.int .i64 nm) := blk_cell HH.out 0
  have h1 : w0.cell? ⟨hb, 1, none⟩ = some (.int .i64 1) := blk_cell HH.out 1
  have h2 : w0.cell? ⟨hb, 2, none⟩ = some (.int .i64 9) := blk_cell HH.out 2
  have h3 : w0.cell? ⟨hb, 3, none⟩ = some (.int .i64 n3) := blk_cell HH.out 3
  have h4 : w0.cell? ⟨hb, 4, none⟩ = some (.int .i64 cnt) := blk_cell HH.out 4
  have h5 : w0.cell? ⟨hb, 5, none⟩ = some (.int .i64 n5) := blk_cell HH.out 5
  have h6 : w0.cell? ⟨hb, 6, none⟩ = some (.int .i64 n6) := blk_cell HH.out 6
  have h7 : w0.cell? ⟨hb, 7, none⟩ = some (.int .i64 n7) := blk_cell HH.out 7
  have h8 : w0.cell? ⟨hb, 8, none⟩ = some (.int .i64 n8) := blk_cell HH.out 8
  have h9 : w0.cell? ⟨hb, 9, none⟩ = some (.int .i64 n9) := blk_cell HH.out 9
  have h10 : w0.cell? ⟨hb, 10, none⟩ = some (.bool lf) := blk_cell HH.out 10
  have h11 : w0.cell? ⟨hb, 11, none⟩ = some (.bool tp) := blk_cell HH.out 11
  have h12 : w0.cell? ⟨hb, 12, none⟩ = some (.int .i64 0) := blk_cell HH.out 12
  have h13 : w0.cell? ⟨hb, 13, none⟩ = some (.int .i64 0) := blk_cell HH.out 13
  have r0 : w0.cell? ⟨hb + 1, 0, none⟩ = some (.int .i64 0) := blk_cell HR.out 0
  have rf0 := blk_free HR.out 0
  have r1 : w0.cell? ⟨hb + 1, 1, none⟩ = some (.slice none 0 0) := blk_cell HR.out 1
  have rf1 := blk_free HR.out 1
  have r2 : w0.cell? ⟨hb + 1, 2, none⟩ = some (.int .i64 0) := blk_cell HR.out 2
  have rf2 := blk_free HR.out 2
  have r3 : w0.cell? ⟨hb + 1, 3, none⟩ = some (.int .i64 0) := blk_cell HR.out 3
  have rf3 := blk_free HR.out 3
  go_wp2_with fail
  go_region_with (go_at_call 30; refine (KZ.out _).mono ?_; rintro e w' ⟨rfl, rfl⟩)
  all_goals
    go_upto_region 12 with fail
    have hO : ((w0.alloc (.cells #[.int .i64 (18 + (nm : Int) + (m : Int)), .slice none 0 0, .int .i64 0, .int .i64 0] 45)).drew).heap[w0.heap.size]? = some (.cells #[.int .i64 (18 + (nm : Int) + (m : Int)), .slice none 0 0, .int .i64 0, .int .i64 0] 45 (0, 0)) := blk_at
    have hH1 : ((w0.alloc (.cells #[.int .i64 (18 + (nm : Int) + (m : Int)), .slice none 0 0, .int .i64 0, .int .i64 0] 45)).drew).heap[hb]? = some (.cells #[.int .i64 nm, .int .i64 1, .int .i64 9, .int .i64 n3, .int .i64 cnt, .int .i64 n5, .int .i64 n6, .int .i64 n7, .int .i64 n8, .int .i64 n9, .bool lf, .bool tp, .int .i64 0, .int .i64 0] 23 (0, 0)) := blk_al HH.out _
    have hR1 : ((w0.alloc (.cells #[.int .i64 (18 + (nm : Int) + (m : Int)), .slice none 0 0, .int .i64 0, .int .i64 0] 45)).drew).heap[hb + 1]? = some (.cells #[.int .i64 0, .slice none 0 0, .int .i64 0, .int .i64 0] 45 (0, 0)) := blk_al HR.out _
    have HG1 := Lib.hid (show W.grownBy ((w0.alloc (.cells #[.int .i64 (18 + (nm : Int) + (m : Int)), .slice none 0 0, .int .i64 0, .int .i64 0] 45)).drew) none from gb_trans HG.out (gb_trans (World.grownBy_alloc w0 _ none) (gb_drew _ _)))
    obtain ⟨q, hq⟩ : ∃ q, w0.heap.size = q := ⟨_, rfl⟩
    have hqs : hb + 1 < q := by omega
    rw [hq] at hO ⊢
    generalize (w0.alloc (.cells #[.int .i64 (18 + (nm : Int) + (m : Int)), .slice none 0 0, .int .i64 0, .int .i64 0] 45)).drew = w1 at hO hH1 hR1 HG1 ⊢
    have HO1 := Lib.hid hO
    have HR1 := Lib.hid hR1
    have HH1 := Lib.hid hH1
    clear hO hR1 hH1 hq HH HR HG h0 h1 h2 h3 h4 h5 h6 h7 h8 h9 h10 h11 h12 h13 r0 rf0 r1 rf1 r2 rf2 r3 rf3 hl0 hl1
    have h0 : w1.cell? ⟨hb, 0, none⟩ = some (.int .i64 nm) := blk_cell HH1.out 0
    have h1 : w1.cell? ⟨hb, 1, none⟩ = some (.int .i64 1) := blk_cell HH1.out 1
    have h2 : w1.cell? ⟨hb, 2, none⟩ = some (.int .i64 9) := blk_cell HH1.out 2
    have h3 : w1.cell? ⟨hb, 3, none⟩ = some (.int .i64 n3) := blk_cell HH1.out 3
    have h4 : w1.cell? ⟨hb, 4, none⟩ = some (.int .i64 cnt) := blk_cell HH1.out 4
    have h5 : w1.cell? ⟨hb, 5, none⟩ = some (.int .i64 n5) := blk_cell HH1.out 5
    have h6 : w1.cell? ⟨hb, 6, none⟩ = some (.int .i64 n6) := blk_cell HH1.out 6
    have h7 : w1.cell? ⟨hb, 7, none⟩ = some (.int .i64 n7) := blk_cell HH1.out 7
    have h8 : w1.cell? ⟨hb, 8, none⟩ = some (.int .i64 n8) := blk_cell HH1.out 8
    have h9 : w1.cell? ⟨hb, 9, none⟩ = some (.int .i64 n9) := blk_cell HH1.out 9
    have h10 : w1.cell? ⟨hb, 10, none⟩ = some (.bool lf) := blk_cell HH1.out 10
    have h11 : w1.cell? ⟨hb, 11, none⟩ = some (.bool tp) := blk_cell HH1.out 11
    have h12 : w1.cell? ⟨hb, 12, none⟩ = some (.int .i64 0) := blk_cell HH1.out 12
    have h13 : w1.cell? ⟨hb, 13, none⟩ = some (.int .i64 0) := blk_cell HH1.out 13
    have r0 : w1.cell? ⟨hb + 1, 0, none⟩ = some (.int .i64 0) := blk_cell HR1.out 0
    have rf0 := blk_free HR1.out 0
    have r1 : w1.cell? ⟨hb + 1, 1, none⟩ = some (.slice none 0 0) := blk_cell HR1.out 1
    have rf1 := blk_free HR1.out 1
    have r2 : w1.cell? ⟨hb + 1, 2, none⟩ = some (.int .i64 0) := blk_cell HR1.out 2
    have rf2 := blk_free HR1.out 2
    have r3 : w1.cell? ⟨hb + 1, 3, none⟩ = some (.int .i64 0) := blk_cell HR1.out 3
    have rf3 := blk_free HR1.out 3
    have lt1 := blk_lt HH1.out
    go_wp2_with fail
    go_region_with (go_at_call 31; refine (KD.out _).mono ?_; rintro e w2 ⟨g, cap, rfl, own, g2⟩; have HOW := Lib.hid own; have HG2 := Lib.hid (show W.grownBy w2 none from by first | exact gb_trans HG1.out g2 | exact gb_trans (gb_trans HG1.out (gb_drew _ _)) g2); have hO2 : w2.heap[q]? = some (.cells #[.int .i64 (18 + (nm : Int) + (m : Int)), .slice none 0 0, .int .i64 0, .int .i64 0] 45 (0, 0)) := (by first | exact old0 g2 HO1.out (blk_lt HO1.out) (by simp) | exact old0 g2 (blk_dr1 HO1.out) (blk_lt (blk_dr1 HO1.out)) (by simp)); have hR2 : w2.heap[hb + 1]? = some (.cells #[.int .i64 0, .slice none 0 0, .int .i64 0, .int .i64 0] 45 (0, 0)) := (by first | exact old0 g2 HR1.out (blk_lt HR1.out) (by simp) | exact old0 g2 (blk_dr1 HR1.out) (blk_lt (blk_dr1 HR1.out)) (by simp)); have hgs : q < w1.heap.size := blk_lt HO1.out; have y0 : w2.cell? ⟨hb + 1, 0, none⟩ = some (.int .i64 0) := blk_cell hR2 0; have yf0 := blk_free hR2 0; have y1 : w2.cell? ⟨hb + 1, 1, none⟩ = some (.slice none 0 0) := blk_cell hR2 1; have yf1 := blk_free hR2 1; have y2 : w2.cell? ⟨hb + 1, 2, none⟩ = some (.int .i64 0) := blk_cell hR2 2; have yf2 := blk_free hR2 2; have y3 : w2.cell? ⟨hb + 1, 3, none⟩ = some (.int .i64 0) := blk_cell hR2 3; have yf3 := blk_free hR2 3; have z0 : w2.cell? ⟨q, 0, none⟩ = some (.int .i64 (18 + (nm : Int) + (m : Int))) := blk_cell hO2 0; have zf0 := blk_free hO2 0; have z1 : w2.cell? ⟨q, 1, none⟩ = some (.slice none 0 0) := blk_cell hO2 1; have zf1 := blk_free hO2 1; have z2 : w2.cell? ⟨q, 2, none⟩ = some (.int .i64 0) := blk_cell hO2 2; have zf2 := blk_free hO2 2; have z3 : w2.cell? ⟨q, 3, none⟩ = some (.int .i64 0) := blk_cell hO2 3; have zf3 := blk_free hO2 3; have lt2 := blk_lt hR2; have lt3 := blk_lt hO2)
    all_goals
      obtain ⟨cur, gb0, HGB0, hcap, HCU0⟩ := own_cur HOW.out (by omega)
      have gb' : w1.heap.size ≤ g := gb0
      have HGB := Lib.hid HGB0
      have HCU := Lib.hid (show ∀ i, i < cnt → ∀ j, j < 4 → cur[i * 4 + j]? = some (.int .u8 (D i j)) from fun i hi j hj => by rw [HCU0 i hi j hj, HV.out, HD.out i hi j hj])
      have n1 : q ≠ hb + 1 := by omega
      have n2 : hb + 1 ≠ q := by omega
      clear HGB0 HCU0 gb0 HOW HH1 HR1 HO1 HD HV
      go_wp2
      refine bodyPost_ret (v := .agg #[.int .i64 (18 + (nm : Int) + (m : Int)), .slice (some ⟨g, 0, none⟩) cnt cap, .int .i64 0, .int .i64 0]) (by simp only [results, Tryz.results10]; go_simp) rfl ⟨g, cap, rfl, ca_of (cur := cur) ?_ HCU.out, hcap, by have := HG1.out.size; omega, ?_⟩
      · repeat' first | with_reducible exact HGB.out | with_reducible refine blk_other ?_ (by omega) | with_reducible refine blk_dr1 ?_ | with_reducible refine blk_al ?_ _
      · have h1 := HHB.out
        repeat' first | with_reducible exact HG2.out | with_reducible refine gb_own ?_ (by omega) (gb_set _ _ _ _) | with_reducible refine gb_trans ?_ (gb_drew _ _) | with_reducible refine gb_trans ?_ (World.grownBy_alloc _ _ _)

end Go.Proofs.YtgkeopgccocmkaaGreat.Tp

/- Layer 17: a pixel as the code and as the document tell it (written by wip/gen/tpa.py). -/
namespace Go.Proofs.YtgkeopgccocmkaaGreat.Tp
open Go.ChangeShapes Go.WideShapes Go.ChangeAt Go.RowKit
open Go.Proofs.YtgkeopgccocmkaaGreat.Sc Go.Proofs.YtgkeopgccocmkaaGreat.Le Go.Proofs.YtgkeopgccocmkaaGreat.Pa Go.Proofs.YtgkeopgccocmkaaGreat.Tg
set_option linter.unusedVariables false

/-- m further steps may be done; nothing was refused. -/
def YL (m : Nat) (y : St) : Prop := y.Ok ∧ y.r = 0 ∧ y.st + m ≤ y.s
theorem YL.step {m : Nat} {y : St} (h : YL (m + 1) y) : YL m (y.work 1).1 ∧ (y.work 1).2 = true := by
  obtain ⟨h1, h2, h3⟩ := h
  have e : y.work 1 = ({ y with st := y.st + 1 }, true) := by
    unfold St.work
    rw [if_neg (by simpa using h2), if_neg (by omega)]
  rw [e]
  refine ⟨⟨?_, h2, ?_⟩, rfl⟩
  · have := h1.work 1; rwa [e] at this
  · show y.st + 1 + m ≤ y.s; omega
theorem YL.rd {m : Nat} {y : St} (h : YL (m + 1) y) {p t : Nat} {n : Int} (h0 : 0 ≤ n) (h1 : n ≤ (t : Int) - p) : Sr.rdB y p t n = true := by
  unfold Sr.rdB Sr.canB
  rw [h.step.2]
  simp [h0, h1]
theorem YL.no {m : Nat} {y : St} (h : YL (m + 1) y) {p t : Nat} {n : Int} (h1 : (t : Int) - p < n) : Sr.rdB y p t n = false := by
  unfold Sr.rdB Sr.canB
  rw [h.step.2]
  simp
  intro; omega
theorem YL.wk {m : Nat} {y : St} : ∀ k, YL (m + k) y → YL m (Rg.wk y k)
  | 0, h => h
  | k + 1, h => by
    have := YL.wk (m := m + 1) k (by rw [show m + 1 + k = m + (k + 1) from by omega]; exact h)
    exact this.step.1
theorem YL.mono {m n : Nat} {y : St} (h : YL m y) (hn : n ≤ m) : YL n y := ⟨h.1, h.2.1, by have := h.2.2; omega⟩

/-- What the code's Pixel tells, at all places: the colour C, or a fault's kind KD and place PL. -/
def CodePix (b l : Nat) (s : ByteArray) (sz : Nat) (H : Array Value) (pv : Value) (P : World → Prop) (C : Nat → Nat → Int) (KD PL : Nat → Int) : Prop :=
  ∀ (o m : Nat) (y : St) (u : World), o ≤ s.size → Sr.So b l s o 0 s.size u → Led l y.ls u → YL (m + 1) y → P u → Calls Tryz.prog 13 #[.pointer (some ⟨b, 0, none⟩), .agg H, pv] u fun e w' =>
    e = .returned (.tuple #[.agg #[.int .u8 (C o 0), .int .u8 (C o 1), .int .u8 (C o 2), .int .u8 (C o 3)], .agg #[.int .i64 (KD o), .int .i64 (if KD o = 0 then 0 else 2), .int .i64 (PL o)]]) ∧ (KD o = 0 → Sr.So b l s (o + sz) 0 s.size w' ∧ (∃ y', YL m y' ∧ Led l y'.ls w') ∧ P w') ∧ Tn u w' [b, l]
/-- What the document's Pixel tells, at all places. -/
def DocPix (s : ByteArray) (H : Array Value) (lv : Value) (Q : World → Prop) (C : Nat → Nat → Int) (KD PL : Nat → Int) : Prop :=
  ∀ (o : Nat) (u : World), o ≤ s.size → Q u → Calls Tryz.prog 14 #[.string s, .int .i64 o, .agg H, lv] u fun e w' =>
    e = .returned (.tuple #[.agg #[.int .u8 (C o 0), .int .u8 (C o 1), .int .u8 (C o 2), .int .u8 (C o 3)], .int .i64 (KD o), .int .i64 (PL o)]) ∧ u.grownBy w' none

def inC (s : ByteArray) (sz : Nat) (c : Nat → Nat → Int) (o j : Nat) : Int := if o + sz ≤ s.size then c o j else 0
def inK (s : ByteArray) (sz : Nat) (o : Nat) : Int := if o + sz ≤ s.size then 0 else 1
def inP (s : ByteArray) (sz : Nat) (o : Nat) : Int := if o + sz ≤ s.size then 0 else s.size
/-- An entry's number at a place: what comes of it. -/
def mOk (s : ByteArray) (fs cnt o : Nat) : Prop := fs ≤ bn s o ∧ bn s o - fs < cnt
instance (s : ByteArray) (fs cnt o : Nat) : Decidable (mOk s fs cnt o) := by unfold mOk; infer_instance
def mC (s : ByteArray) (fs cnt : Nat) (D : Nat → Nat → Int) (o j : Nat) : Int := if o + 1 ≤ s.size then (if mOk s fs cnt o then D (bn s o - fs) j else 0) else 0
def mK (s : ByteArray) (fs cnt o : Nat) : Int := if o + 1 ≤ s.size then (if mOk s fs cnt o then 0 else 2) else 1
def mP (s : ByteArray) (fs cnt o : Nat) : Int := if o + 1 ≤ s.size then (if mOk s fs cnt o then 0 else o) else s.size

/-- Pixels that every text long enough has. -/
theorem code_in (nm x2 fs cnt en gw gh d a : Nat) (mp lf tp : Bool) (b l sz : Nat) (s : ByteArray) (pv : Value) (P : World → Prop) (c : Nat → Nat → Int) (hsz : 0 < sz)
    (KS : ∀ u, Calls Tryz.prog 33 #[.agg #[.int .i64 nm, .bool mp, .int .i64 x2, .int .i64 fs, .int .i64 cnt, .int .i64 en, .int .i64 gw, .int .i64 gh, .int .i64 d, .int .i64 a, .bool lf, .bool tp]] u fun e w' => e = .returned (.int .i64 sz) ∧ u.grownBy w' none) (hPt : ∀ u u', P u → Tn u u' [b, l] → P u')
    (KP : ∀ o z u, o + sz ≤ s.size → s.extract o (o + sz) = z → P u → Calls Tryz.prog 34 #[.string z, .agg #[.int .i64 nm, .bool mp, .int .i64 x2, .int .i64 fs, .int .i64 cnt, .int .i64 en, .int .i64 gw, .int .i64 gh, .int .i64 d, .int .i64 a, .bool lf, .bool tp], pv] u fun e w' => e = .returned (.tuple #[.agg #[.int .u8 (c o 0), .int .u8 (c o 1), .int .u8 (c o 2), .int .u8 (c o 3)], .bool true]) ∧ u.grownBy w' none) :
    CodePix b l s sz #[.int .i64 nm, .bool mp, .int .i64 x2, .int .i64 fs, .int .i64 cnt, .int .i64 en, .int .i64 gw, .int .i64 gh, .int .i64 d, .int .i64 a, .bool lf, .bool tp] pv P (inC s sz c) (inK s sz) (inP s sz) := by
  intro o m y u ho S L Y hP
  unfold inC inK inP
  by_cases hin : o + sz ≤ s.size
  · simp only [if_pos hin, if_true]
    have K := tPixel_ok nm fs cnt en gw gh d a x2 mp lf tp b l s _ o 0 s.size sz y pv u P S L Y.1 _ _ _ _ (Y.rd (by omega) (by omega)) rfl KS hP hPt (fun u hu => KP o _ u hin rfl hu)
    exact K.mono (fun e w' ⟨he, ⟨hs, hl, hp⟩, ht⟩ => ⟨he, fun _ => ⟨hs, ⟨_, Y.step.1, hl⟩, hp⟩, ht⟩)
  · simp only [if_neg hin]
    have K := tPixel_no nm fs cnt en gw gh d a x2 mp lf tp b l s s o 0 s.size sz y pv u P S L Y.1 1 s.size (Y.no (by omega)) (if_pos Y.step.1.2.1) KS hP hPt
    exact K.mono (fun e w' ⟨he, _, ht⟩ => ⟨he, fun h => absurd h (by decide), ht⟩)
theorem doc_in (nm x2 fs cnt en gw gh d a : Nat) (mi : Int) (lf tp : Bool) (sz : Nat) (s : ByteArray) (lv : Value) (Q : World → Prop) (c : Nat → Nat → Int) (hsz : sz ≤ 4) (hm : s.size ≤ 1000000)
    (KS : ∀ u, Calls Tryz.prog 15 #[.agg #[.int .i64 nm, .int .i64 mi, .int .i64 x2, .int .i64 fs, .int .i64 cnt, .int .i64 en, .int .i64 gw, .int .i64 gh, .int .i64 d, .int .i64 a, .bool lf, .bool tp, .int .i64 0, .int .i64 0]] u fun e w' => e = .returned (.int .i64 sz) ∧ u.grownBy w' none)
    (KP : ∀ o u, o + sz ≤ s.size → Q u → Calls Tryz.prog 14 #[.string s, .int .i64 o, .agg #[.int .i64 nm, .int .i64 mi, .int .i64 x2, .int .i64 fs, .int .i64 cnt, .int .i64 en, .int .i64 gw, .int .i64 gh, .int .i64 d, .int .i64 a, .bool lf, .bool tp, .int .i64 0, .int .i64 0], lv] u fun e w' => e = .returned (.tuple #[.agg #[.int .u8 (c o 0), .int .u8 (c o 1), .int .u8 (c o 2), .int .u8 (c o 3)], .int .i64 0, .int .i64 0]) ∧ u.grownBy w' none) :
    DocPix s #[.int .i64 nm, .int .i64 mi, .int .i64 x2, .int .i64 fs, .int .i64 cnt, .int .i64 en, .int .i64 gw, .int .i64 gh, .int .i64 d, .int .i64 a, .bool lf, .bool tp, .int .i64 0, .int .i64 0] lv Q (inC s sz c) (inK s sz) (inP s sz) := by
  intro o u ho hQ
  unfold inC inK inP
  by_cases hin : o + sz ≤ s.size
  · simp only [if_pos hin]
    exact KP o u hin hQ
  · simp only [if_neg hin]
    exact rPixel_no nm mi fs cnt en gw gh d a x2 lf tp s o sz lv (by omega) u (by omega) ho hsz (by omega) KS

/-- Pixels that are entries' numbers. -/
theorem code_map (nm x2 fs cnt en gw gh d a : Nat) (mp lf tp : Bool) (b l p q g : Nat) (s S : ByteArray) (D : Nat → Nat → Int) (hp1 : pln x2 = 1) (ht : x2 < 256) (hfs : fs ≤ 65535) (hE : EntOf S cnt D) (np : p ≠ b ∧ p ≠ l) (nq : q ≠ b ∧ q ≠ l) (ng : g ≠ b ∧ g ≠ l) :
    CodePix b l s 1 #[.int .i64 nm, .bool mp, .int .i64 x2, .int .i64 fs, .int .i64 cnt, .int .i64 en, .int .i64 gw, .int .i64 gh, .int .i64 d, .int .i64 a, .bool lf, .bool tp] (.pointer (some ⟨p, 0, none⟩)) (fun u => Po p q l g cnt cnt S u) (mC s fs cnt D) (mK s fs cnt) (mP s fs cnt) := by
  have KS : ∀ u, Calls Tryz.prog 33 #[.agg #[.int .i64 nm, .bool mp, .int .i64 x2, .int .i64 fs, .int .i64 cnt, .int .i64 en, .int .i64 gw, .int .i64 gh, .int .i64 d, .int .i64 a, .bool lf, .bool tp]] u fun e w' => e = .returned (.int .i64 ((1 : Nat) : Int)) ∧ u.grownBy w' none := fun u => tsize_one nm fs cnt en gw gh d a x2 mp lf tp u ht (by rw [hp1]; rfl)
  have hPt : ∀ u u', Po p q l g cnt cnt S u → Tn u u' [b, l] → Po p q l g cnt cnt S u' := fun u u' h t => Rg.po_turned h t (by simp; omega) (by simp; omega) (by simp; omega)
  have hPg : ∀ u u', Po p q l g cnt cnt S u → u.grownBy u' none → Po p q l g cnt cnt S u' := fun u u' h t => h.grown t (by simp) (by simp) (by simp)
  intro o m y u ho S0 L Y hP
  unfold mC mK mP
  by_cases hin : o + 1 ≤ s.size
  · obtain ⟨z, hz⟩ : ∃ z, s.extract o (o + 1) = z := ⟨_, rfl⟩
    have hzs : z.size = 1 := by rw [← hz, ByteArray.size_extract]; omega
    have hzv : (z[0]'(by omega)).toNat = bn s o := by
      have h1 := bt_cut s z o (o + 1) 0 hz (by omega) (by omega)
      have h2 : bt s (o + 0) = (bn s o : Int) := rfl
      rw [h2] at h1
      omega
    by_cases hok : mOk s fs cnt o
    · simp only [if_pos hin, if_pos hok, if_true]
      have hk : ((bn s o : Nat) : Int) - (fs : Int) = ((bn s o - fs : Nat) : Int) := by have := hok.1; omega
      have K := tPixel_ok nm fs cnt en gw gh d a x2 mp lf tp b l s z o 0 s.size 1 y (.pointer (some ⟨p, 0, none⟩)) u _ S0 L Y.1 (D (bn s o - fs) 0) (D (bn s o - fs) 1) (D (bn s o - fs) 2) (D (bn s o - fs) 3) (Y.rd (by omega) (by omega)) hz KS hP hPt
        (fun u hu => tpix_map nm fs cnt en gw gh d a x2 mp lf tp z p (bn s o) _ _ _ _ true u _ ht hp1 (by omega) hzv (by omega) hu hPg (fun u hu => by
          rw [hk]
          have K := pof_yes p q l g cnt cnt (bn s o - fs) S u hu hok.2
          have e0 := hE (bn s o - fs) hok.2 0 (by decide)
          rw [Nat.add_zero] at e0
          rw [e0, hE (bn s o - fs) hok.2 1 (by decide), hE (bn s o - fs) hok.2 2 (by decide), hE (bn s o - fs) hok.2 3 (by decide)] at K
          exact K))
      exact K.mono (fun e w' ⟨he, ⟨hs, hl, hp⟩, ht⟩ => ⟨he, fun _ => ⟨hs, ⟨_, Y.step.1, hl⟩, hp⟩, ht⟩)
    · simp only [if_pos hin, if_neg hok]
      have K := tPixel_bad nm fs cnt en gw gh d a x2 mp lf tp b l s z o 0 s.size 1 y (.pointer (some ⟨p, 0, none⟩)) u _ S0 L Y.1 0 0 0 0 (Y.rd (by omega) (by omega)) hz KS hP hPt
        (fun u hu => tpix_map nm fs cnt en gw gh d a x2 mp lf tp z p (bn s o) _ _ _ _ false u _ ht hp1 (by omega) hzv (by omega) hu hPg (fun u hu => pof_no p q cnt _ u hu.blk (by unfold mOk at hok; omega)))
      exact K.mono (fun e w' ⟨he, _, ht⟩ => ⟨he, fun h => absurd h (by decide), ht⟩)
  · simp only [if_neg hin]
    have K := tPixel_no nm fs cnt en gw gh d a x2 mp lf tp b l s s o 0 s.size 1 y (.pointer (some ⟨p, 0, none⟩)) u _ S0 L Y.1 1 s.size (Y.no (by omega)) (if_pos Y.step.1.2.1) KS hP hPt
    exact K.mono (fun e w' ⟨he, _, ht⟩ => ⟨he, fun h => absurd h (by decide), ht⟩)

theorem doc_map1 (nm fs cnt en gw gh d a : Nat) (mi : Int) (lf tp : Bool) (s : ByteArray) (g cap : Nat) (D : Nat → Nat → Int) (hm : s.size ≤ 1000000) (hd : d = 8) (hfs : fs ≤ 65535) (hcap : cnt ≤ cap) :
    DocPix s #[.int .i64 nm, .int .i64 mi, .int .i64 1, .int .i64 fs, .int .i64 cnt, .int .i64 en, .int .i64 gw, .int .i64 gh, .int .i64 d, .int .i64 a, .bool lf, .bool tp, .int .i64 0, .int .i64 0] (.slice (some ⟨g, 0, none⟩) cnt cap) (fun u => ColsAt g 0 cnt D u) (mC s fs cnt D) (mK s fs cnt) (mP s fs cnt) := by
  subst hd
  have KS : ∀ u, Calls Tryz.prog 15 #[.agg #[.int .i64 nm, .int .i64 mi, .int .i64 1, .int .i64 fs, .int .i64 cnt, .int .i64 en, .int .i64 gw, .int .i64 gh, .int .i64 (8 : Nat), .int .i64 a, .bool lf, .bool tp, .int .i64 0, .int .i64 0]] u fun e w' => e = .returned (.int .i64 ((1 : Nat) : Int)) ∧ u.grownBy w' none := fun u => rs_8 nm mi fs cnt en gw gh a 1 lf tp u
  intro o u ho hQ
  unfold mC mK mP
  by_cases hin : o + 1 ≤ s.size
  · have hx : o < s.size := hin
    have hv := bn_at s o hx
    have h8 : (((8 : Nat) : Int) != 8) = false := rfl
    by_cases hok : mOk s fs cnt o
    · simp only [if_pos hin, if_pos hok]
      have c0 := hQ (bn s o - fs) hok.2 0 (by decide)
      have c1 := hQ (bn s o - fs) hok.2 1 (by decide)
      have c2 := hQ (bn s o - fs) hok.2 2 (by decide)
      have c3 := hQ (bn s o - fs) hok.2 3 (by decide)
      rw [Nat.zero_add] at c0 c1 c2 c3
      exact rPixel_in1 nm mi fs cnt en gw gh (8 : Nat) a lf tp s o 1 (.slice (some ⟨g, 0, none⟩) cnt cap) (bn s o) hin h8 hx hv u g cnt cap (bn s o - fs) _ _ _ _ (by omega) (by have := hok.1; omega) hok.2 hcap c0 c1 c2 c3 (by omega) ho (by decide) (by omega) KS
    · simp only [if_pos hin, if_neg hok]
      by_cases hlo : bn s o < fs
      · exact rPixel_low1 nm mi fs cnt en gw gh (8 : Nat) a lf tp s o 1 (.slice (some ⟨g, 0, none⟩) cnt cap) (bn s o) hin h8 hx hv (by omega) u (by omega) ho (by decide) (by omega) KS
      · exact rPixel_high1 nm mi fs cnt en gw gh (8 : Nat) a lf tp s o 1 (.slice (some ⟨g, 0, none⟩) cnt cap) (bn s o) hin h8 hx hv g cnt cap (by omega) (by omega) (by unfold mOk at hok; omega) u (by omega) ho (by decide) (by omega) KS
  · simp only [if_neg hin]
    exact rPixel_no nm mi fs cnt en gw gh (8 : Nat) a 1 lf tp s o 1 _ (by omega) u (by omega) ho (by decide) (by omega) KS

theorem doc_map9 (nm fs cnt en gw gh d a : Nat) (mi : Int) (lf tp : Bool) (s : ByteArray) (g cap : Nat) (D : Nat → Nat → Int) (hm : s.size ≤ 1000000) (hd : d = 8) (hfs : fs ≤ 65535) (hcap : cnt ≤ cap) :
    DocPix s #[.int .i64 nm, .int .i64 mi, .int .i64 9, .int .i64 fs, .int .i64 cnt, .int .i64 en, .int .i64 gw, .int .i64 gh, .int .i64 d, .int .i64 a, .bool lf, .bool tp, .int .i64 0, .int .i64 0] (.slice (some ⟨g, 0, none⟩) cnt cap) (fun u => ColsAt g 0 cnt D u) (mC s fs cnt D) (mK s fs cnt) (mP s fs cnt) := by
  subst hd
  have KS : ∀ u, Calls Tryz.prog 15 #[.agg #[.int .i64 nm, .int .i64 mi, .int .i64 9, .int .i64 fs, .int .i64 cnt, .int .i64 en, .int .i64 gw, .int .i64 gh, .int .i64 (8 : Nat), .int .i64 a, .bool lf, .bool tp, .int .i64 0, .int .i64 0]] u fun e w' => e = .returned (.int .i64 ((1 : Nat) : Int)) ∧ u.grownBy w' none := fun u => rs_8 nm mi fs cnt en gw gh a 9 lf tp u
  intro o u ho hQ
  unfold mC mK mP
  by_cases hin : o + 1 ≤ s.size
  · have hx : o < s.size := hin
    have hv := bn_at s o hx
    have h8 : (((8 : Nat) : Int) != 8) = false := rfl
    by_cases hok : mOk s fs cnt o
    · simp only [if_pos hin, if_pos hok]
      have c0 := hQ (bn s o - fs) hok.2 0 (by decide)
      have c1 := hQ (bn s o - fs) hok.2 1 (by decide)
      have c2 := hQ (bn s o - fs) hok.2 2 (by decide)
      have c3 := hQ (bn s o - fs) hok.2 3 (by decide)
      rw [Nat.zero_add] at c0 c1 c2 c3
      exact rPixel_in9 nm mi fs cnt en gw gh (8 : Nat) a lf tp s o 1 (.slice (some ⟨g, 0, none⟩) cnt cap) (bn s o) hin h8 hx hv u g cnt cap (bn s o - fs) _ _ _ _ (by omega) (by have := hok.1; omega) hok.2 hcap c0 c1 c2 c3 (by omega) ho (by decide) (by omega) KS
    · simp only [if_pos hin, if_neg hok]
      by_cases hlo : bn s o < fs
      · exact rPixel_low9 nm mi fs cnt en gw gh (8 : Nat) a lf tp s o 1 (.slice (some ⟨g, 0, none⟩) cnt cap) (bn s o) hin h8 hx hv (by omega) u (by omega) ho (by decide) (by omega) KS
      · exact rPixel_high9 nm mi fs cnt en gw gh (8 : Nat) a lf tp s o 1 (.slice (some ⟨g, 0, none⟩) cnt cap) (bn s o) hin h8 hx hv g cnt cap (by omega) (by omega) (by unfold mOk at hok; omega) u (by omega) ho (by decide) (by omega) KS
  · simp only [if_neg hin]
    exact rPixel_no nm mi fs cnt en gw gh (8 : Nat) a 9 lf tp s o 1 _ (by omega) u (by omega) ho (by decide) (by omega) KS

end Go.Proofs.YtgkeopgccocmkaaGreat.Tp

/- The law of layer 17: the chapter's examples; its early ends (written by wip/gen/tpb.py). -/
namespace Go.Proofs.YtgkeopgccocmkaaGreat.Tp
open Go.ChangeShapes Go.WideShapes Go.ChangeAt Go.RowKit
open Go.Proofs.YtgkeopgccocmkaaGreat.Sc Go.Proofs.YtgkeopgccocmkaaGreat.Le Go.Proofs.YtgkeopgccocmkaaGreat.Pa Go.Proofs.YtgkeopgccocmkaaGreat.Tg
set_option linter.unusedVariables false

def exA : ByteArray := ⟨#[0, 128]⟩
def exB : ByteArray := ⟨#[0, 0]⟩
set_option maxRecDepth 100000 in
set_option maxHeartbeats 4000000 in
theorem awake_calls (W : World) : Calls Tryz.prog 5 #[] W fun e w' => e = .returned (.bool true) ∧ W.grownBy w' none := by
  have KA0 := fun u => color_16_1 exA exA 0 u rfl (by decide) (by decide)
  have KB0 := fun u => color_16_1 exB exB 0 u rfl (by decide) (by decide)
  rw [show entAt 0 exA 0 0 = 0 from by decide, show entAt 0 exA 0 1 = 0 from by decide, show entAt 0 exA 0 2 = 0 from by decide, show pxA 16 1 exA 0 = 255 from by decide] at KA0
  rw [show entAt 0 exB 0 0 = 0 from by decide, show entAt 0 exB 0 1 = 0 from by decide, show entAt 0 exB 0 2 = 0 from by decide, show pxA 16 1 exB 0 = 0 from by decide] at KB0
  rw [show exA = ⟨#[0, 128]⟩ from rfl] at KA0
  rw [show exB = ⟨#[0, 0]⟩ from rfl] at KB0
  have KA := Lib.hid KA0
  have KB := Lib.hid KB0
  clear KA0 KB0
  go_enter Tryz.func5, Tryz.ntmps5
  go_wp2_with fail
  refine (KA.out _).mono ?_
  rintro e w1 ⟨rfl, g1⟩
  have G1 := Lib.hid g1
  clear g1
  go_wp2_with fail
  have B1 : (w1.alloc (.cells #[.int .u8 0, .int .u8 0, .int .u8 0, .int .u8 255] 49)).heap[w1.heap.size]? = some (.cells #[.int .u8 0, .int .u8 0, .int .u8 0, .int .u8 255] 49 (0, 0)) := blk_at
  have G1' := Lib.hid (gb_trans G1.out (World.grownBy_alloc w1 (.cells #[.int .u8 0, .int .u8 0, .int .u8 0, .int .u8 255] 49) none))
  obtain ⟨q, hq⟩ : ∃ q, w1.heap.size = q := ⟨_, rfl⟩
  rw [hq] at B1 ⊢
  generalize w1.alloc (.cells #[.int .u8 0, .int .u8 0, .int .u8 0, .int .u8 255] 49) = w2 at B1 G1' ⊢
  have HB1 := Lib.hid B1
  clear B1 G1 hq
  refine (KB.out _).mono ?_
  rintro e w3 ⟨rfl, g3⟩
  have B3 := old0 g3 HB1.out (blk_lt HB1.out) (by simp)
  have G3 := Lib.hid (gb_trans G1'.out g3)
  clear g3 HB1 G1' KA KB
  have c0 := blk_cell B3 0
  have c1 := blk_cell B3 1
  have c2 := blk_cell B3 2
  have c3 := blk_cell B3 3
  simp only [List.getElem?_toArray, List.getElem?_cons_succ, List.getElem?_cons_zero] at c0 c1 c2 c3
  have lt := blk_lt B3
  clear B3
  go_wp2
  go_ret
  exact ⟨rfl, gb_trans G3.out (World.grownBy_alloc _ _ _)⟩

set_option maxRecDepth 100000 in
set_option maxHeartbeats 4000000 in
theorem files_bad (s : ByteArray) (n : Int) (k p : Int) (W : World) (hk : (k == 0) = false) (hm : s.size ≤ 9223372036854775807) (KR0 : ∀ u, Calls Tryz.prog 4 #[.string s] u fun e w' => e = .returned (.agg #[.int .i64 0, .int .i64 0, .int .i64 0, .int .i64 0, .int .i64 0, .int .i64 0, .int .i64 0, .int .i64 0, .int .i64 0, .int .i64 0, .bool false, .bool false, .int .i64 k, .int .i64 p]) ∧ u.grownBy w' none) :
    Calls Tryz.prog 3 #[.string s, .int .u8 n] W fun e w' => e = .returned (.bool true) ∧ W.grownBy w' none := by
  have KR := Lib.hid KR0
  have hk' : (k != 0) = true := by simp [bne, hk]
  clear KR0
  by_cases hl : 900 < s.size
  · have d1 : decide ((900 : Int) < (s.size : Int)) = true := decide_eq_true (by omega)
    clear hl
    go_enter Tryz.func3, Tryz.ntmps3
    go_wp2_with fail
    refine (KR.out _).mono ?_
    rintro e w1 ⟨rfl, g1⟩
    go_wp2_with fail
    refine (awake_calls _).mono ?_
    rintro e w9 ⟨rfl, g9⟩
    have G9 := Lib.hid (gb_trans (gb_trans g1 (World.grownBy_alloc _ _ none)) g9)
    clear g9
    go_wp2
    go_ret
    exact ⟨rfl, G9.out⟩
  · have d1 : decide ((900 : Int) < (s.size : Int)) = false := decide_eq_false (by omega)
    clear hl
    go_enter Tryz.func3, Tryz.ntmps3
    go_wp2_with fail
    refine (KR.out _).mono ?_
    rintro e w1 ⟨rfl, g1⟩
    go_wp2_with fail
    refine (awake_calls _).mono ?_
    rintro e w9 ⟨rfl, g9⟩
    have G9 := Lib.hid (gb_trans (gb_trans g1 (World.grownBy_alloc _ _ none)) g9)
    clear g9
    go_wp2
    go_ret
    exact ⟨rfl, G9.out⟩

set_option maxRecDepth 100000 in
set_option maxHeartbeats 4000000 in
theorem files_far (s : ByteArray) (n : Int) (nm x2 fs cnt en gw gh d a : Nat) (mi : Int) (lf tp : Bool) (W : World) (hf : 900 < s.size ∨ 300 < cnt) (hm : s.size ≤ 9223372036854775807) (KR0 : ∀ u, Calls Tryz.prog 4 #[.string s] u fun e w' => e = .returned (.agg #[.int .i64 nm, .int .i64 mi, .int .i64 x2, .int .i64 fs, .int .i64 cnt, .int .i64 en, .int .i64 gw, .int .i64 gh, .int .i64 d, .int .i64 a, .bool lf, .bool tp, .int .i64 0, .int .i64 0]) ∧ u.grownBy w' none) :
    Calls Tryz.prog 3 #[.string s, .int .u8 n] W fun e w' => e = .returned (.bool true) ∧ W.grownBy w' none := by
  have KR := Lib.hid KR0
  clear KR0
  by_cases hl : 900 < s.size
  · have d1 : decide ((900 : Int) < (s.size : Int)) = true := decide_eq_true (by omega)
    clear hl hf
    go_enter Tryz.func3, Tryz.ntmps3
    go_wp2_with fail
    refine (KR.out _).mono ?_
    rintro e w1 ⟨rfl, g1⟩
    go_wp2_with fail
    refine (awake_calls _).mono ?_
    rintro e w9 ⟨rfl, g9⟩
    have G9 := Lib.hid (gb_trans (gb_trans g1 (World.grownBy_alloc _ _ none)) g9)
    clear g9
    go_wp2
    go_ret
    exact ⟨rfl, G9.out⟩
  · have d1 : decide ((900 : Int) < (s.size : Int)) = false := decide_eq_false (by omega)
    have d2 : decide ((300 : Int) < (cnt : Int)) = true := decide_eq_true (by omega)
    clear hl hf
    go_enter Tryz.func3, Tryz.ntmps3
    go_wp2_with fail
    refine (KR.out _).mono ?_
    rintro e w1 ⟨rfl, g1⟩
    go_wp2_with fail
    refine (awake_calls _).mono ?_
    rintro e w9 ⟨rfl, g9⟩
    have G9 := Lib.hid (gb_trans (gb_trans g1 (World.grownBy_alloc _ _ none)) g9)
    clear g9
    go_wp2
    go_ret
    exact ⟨rfl, G9.out⟩


end Go.Proofs.YtgkeopgccocmkaaGreat.Tp
