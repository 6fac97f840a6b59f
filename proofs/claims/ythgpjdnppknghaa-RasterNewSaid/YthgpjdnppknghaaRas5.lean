/- The law RasterNew, walked. -/
import Derived.Test.YthgpjdnppknghaaRas4
namespace Go.Proofs.Ythgpjdnppknghaa.Ra
open Go.ChangeShapes Go.WideShapes Go.ChangeAt Go.RowKit
open Go.Proofs.Ythgpjdnppknghaa.Le Go.Proofs.Ythgpjdnppknghaa.Bu Go.Proofs.Ythgpjdnppknghaa.Nu
set_option linter.unusedVariables false

theorem new_unbroken (p q m s : Int) : (St.new p q m s).ls.br = 0 ∧ (St.new p q m s).ls.by_ = 0 := ⟨rfl, rfl⟩

set_option maxRecDepth 100000 in
theorem rn_cap_bad1 (p q r0 s m a b : Int) (x : St) (w : World) (hm : m = 65536) (hr : 65536 < r0) (h : a < 1) (KN : Hid (∀ w, Calls Try.prog 12 #[.agg #[.int .i64 p, .int .i64 q, .int .i64 m, .int .i64 s]] w fun e w' => ∃ b, e = .returned (.pointer (some ⟨b, 0, none⟩)) ∧ Led b x.ls w' ∧ w.grownBy w' none ∧ w.heap.size ≤ b)) (hbr : (x.ls.br != 0) = false) :
    Calls Try.prog 5 #[.agg #[.int .i64 p, .int .i64 q, .int .i64 r0, .int .i64 s], .int .i64 a, .int .i64 b] w fun e w' => e = .returned (.bool true) ∧ w.grownBy w' none := by
  have KR := Lib.hid (fun l w => new_range l a b w (by unfold badS; omega))
  have KA := Lib.hid (fun w => new_arg a b w)
  have KW := Lib.hid (fun w => awake_calls w)
  subst hm
  go_enter Try.func5, Try.ntmps5
  go_wp2_with fail
  have B0 := Lib.hid (show (w.alloc (.cells #[.int .i64 p, .int .i64 q, .int .i64 65536, .int .i64 s] 27)).heap[w.heap.size]? = some (.cells #[.int .i64 p, .int .i64 q, .int .i64 65536, .int .i64 s] 27 (0, 0)) from blk_at)
  have z0 := size_alloc w (.cells #[.int .i64 p, .int .i64 q, .int .i64 65536, .int .i64 s] 27)
  refine (KN.out _).mono ?_
  rintro e w1 ⟨l, rfl, L1, g1, hl⟩
  have B1 := Lib.hid ((g1.block _ (blk_lt B0.out) (by simp)).trans B0.out)
  have H1 := Lib.hid L1
  have G1 := Lib.hid (gb_trans (World.grownBy_alloc w (.cells #[.int .i64 p, .int .i64 q, .int .i64 65536, .int .i64 s] 27) none) g1)
  have hl' : w.heap.size < l := by omega
  clear L1 g1 hl z0
  go_wp2_with fail
  refine (KR.out l w1).mono ?_
  rintro e w' ⟨rfl, rfl⟩
  have KB := Lib.hid (broken_calls l _ w1 H1.out)
  go_wp2_with fail
  refine (KA.out _).mono ?_
  rintro e w' ⟨rfl, rfl⟩
  go_wp2_with fail
  refine KB.out.mono ?_
  rintro e w' ⟨rfl, rfl⟩
  rw [hbr]
  go_wp2_with fail
  refine (KW.out _).mono ?_
  rintro e w9 ⟨rfl, g9⟩
  have G9 := Lib.hid (gb_trans G1.out g9)
  clear g9
  go_wp2
  go_ret
  exact ⟨rfl, G9.out⟩

set_option maxRecDepth 100000 in
theorem rn_cap_bad2 (p q r0 s m a b : Int) (x : St) (w : World) (hm : m = 65536) (hr : 65536 < r0) (h : 16384 < a) (KN : Hid (∀ w, Calls Try.prog 12 #[.agg #[.int .i64 p, .int .i64 q, .int .i64 m, .int .i64 s]] w fun e w' => ∃ b, e = .returned (.pointer (some ⟨b, 0, none⟩)) ∧ Led b x.ls w' ∧ w.grownBy w' none ∧ w.heap.size ≤ b)) (hbr : (x.ls.br != 0) = false) :
    Calls Try.prog 5 #[.agg #[.int .i64 p, .int .i64 q, .int .i64 r0, .int .i64 s], .int .i64 a, .int .i64 b] w fun e w' => e = .returned (.bool true) ∧ w.grownBy w' none := by
  have KR := Lib.hid (fun l w => new_range l a b w (by unfold badS; omega))
  have KA := Lib.hid (fun w => new_arg a b w)
  have KW := Lib.hid (fun w => awake_calls w)
  have h1 : ¬ a < 1 := by omega
  subst hm
  go_enter Try.func5, Try.ntmps5
  go_wp2_with fail
  have B0 := Lib.hid (show (w.alloc (.cells #[.int .i64 p, .int .i64 q, .int .i64 65536, .int .i64 s] 27)).heap[w.heap.size]? = some (.cells #[.int .i64 p, .int .i64 q, .int .i64 65536, .int .i64 s] 27 (0, 0)) from blk_at)
  have z0 := size_alloc w (.cells #[.int .i64 p, .int .i64 q, .int .i64 65536, .int .i64 s] 27)
  refine (KN.out _).mono ?_
  rintro e w1 ⟨l, rfl, L1, g1, hl⟩
  have B1 := Lib.hid ((g1.block _ (blk_lt B0.out) (by simp)).trans B0.out)
  have H1 := Lib.hid L1
  have G1 := Lib.hid (gb_trans (World.grownBy_alloc w (.cells #[.int .i64 p, .int .i64 q, .int .i64 65536, .int .i64 s] 27) none) g1)
  have hl' : w.heap.size < l := by omega
  clear L1 g1 hl z0
  go_wp2_with fail
  refine (KR.out l w1).mono ?_
  rintro e w' ⟨rfl, rfl⟩
  have KB := Lib.hid (broken_calls l _ w1 H1.out)
  go_wp2_with fail
  refine (KA.out _).mono ?_
  rintro e w' ⟨rfl, rfl⟩
  go_wp2_with fail
  refine KB.out.mono ?_
  rintro e w' ⟨rfl, rfl⟩
  rw [hbr]
  go_wp2_with fail
  refine (KW.out _).mono ?_
  rintro e w9 ⟨rfl, g9⟩
  have G9 := Lib.hid (gb_trans G1.out g9)
  clear g9
  go_wp2
  go_ret
  exact ⟨rfl, G9.out⟩

set_option maxRecDepth 100000 in
theorem rn_cap_bad3 (p q r0 s m a b : Int) (x : St) (w : World) (hm : m = 65536) (hr : 65536 < r0) (h1 : 1 ≤ a) (h2 : a ≤ 16384) (h : b < 1) (KN : Hid (∀ w, Calls Try.prog 12 #[.agg #[.int .i64 p, .int .i64 q, .int .i64 m, .int .i64 s]] w fun e w' => ∃ b, e = .returned (.pointer (some ⟨b, 0, none⟩)) ∧ Led b x.ls w' ∧ w.grownBy w' none ∧ w.heap.size ≤ b)) (hbr : (x.ls.br != 0) = false) :
    Calls Try.prog 5 #[.agg #[.int .i64 p, .int .i64 q, .int .i64 r0, .int .i64 s], .int .i64 a, .int .i64 b] w fun e w' => e = .returned (.bool true) ∧ w.grownBy w' none := by
  have KR := Lib.hid (fun l w => new_range l a b w (by unfold badS; omega))
  have KA := Lib.hid (fun w => new_arg a b w)
  have KW := Lib.hid (fun w => awake_calls w)
  subst hm
  go_enter Try.func5, Try.ntmps5
  go_wp2_with fail
  have B0 := Lib.hid (show (w.alloc (.cells #[.int .i64 p, .int .i64 q, .int .i64 65536, .int .i64 s] 27)).heap[w.heap.size]? = some (.cells #[.int .i64 p, .int .i64 q, .int .i64 65536, .int .i64 s] 27 (0, 0)) from blk_at)
  have z0 := size_alloc w (.cells #[.int .i64 p, .int .i64 q, .int .i64 65536, .int .i64 s] 27)
  refine (KN.out _).mono ?_
  rintro e w1 ⟨l, rfl, L1, g1, hl⟩
  have B1 := Lib.hid ((g1.block _ (blk_lt B0.out) (by simp)).trans B0.out)
  have H1 := Lib.hid L1
  have G1 := Lib.hid (gb_trans (World.grownBy_alloc w (.cells #[.int .i64 p, .int .i64 q, .int .i64 65536, .int .i64 s] 27) none) g1)
  have hl' : w.heap.size < l := by omega
  clear L1 g1 hl z0
  go_wp2_with fail
  refine (KR.out l w1).mono ?_
  rintro e w' ⟨rfl, rfl⟩
  have KB := Lib.hid (broken_calls l _ w1 H1.out)
  go_wp2_with fail
  refine (KA.out _).mono ?_
  rintro e w' ⟨rfl, rfl⟩
  go_wp2_with fail
  refine KB.out.mono ?_
  rintro e w' ⟨rfl, rfl⟩
  rw [hbr]
  go_wp2_with fail
  refine (KW.out _).mono ?_
  rintro e w9 ⟨rfl, g9⟩
  have G9 := Lib.hid (gb_trans G1.out g9)
  clear g9
  go_wp2
  go_ret
  exact ⟨rfl, G9.out⟩

set_option maxRecDepth 100000 in
theorem rn_cap_bad4 (p q r0 s m a b : Int) (x : St) (w : World) (hm : m = 65536) (hr : 65536 < r0) (h1 : 1 ≤ a) (h2 : a ≤ 16384) (h : 16384 < b) (KN : Hid (∀ w, Calls Try.prog 12 #[.agg #[.int .i64 p, .int .i64 q, .int .i64 m, .int .i64 s]] w fun e w' => ∃ b, e = .returned (.pointer (some ⟨b, 0, none⟩)) ∧ Led b x.ls w' ∧ w.grownBy w' none ∧ w.heap.size ≤ b)) (hbr : (x.ls.br != 0) = false) :
    Calls Try.prog 5 #[.agg #[.int .i64 p, .int .i64 q, .int .i64 r0, .int .i64 s], .int .i64 a, .int .i64 b] w fun e w' => e = .returned (.bool true) ∧ w.grownBy w' none := by
  have KR := Lib.hid (fun l w => new_range l a b w (by unfold badS; omega))
  have KA := Lib.hid (fun w => new_arg a b w)
  have KW := Lib.hid (fun w => awake_calls w)
  have h3 : ¬ b < 1 := by omega
  subst hm
  go_enter Try.func5, Try.ntmps5
  go_wp2_with fail
  have B0 := Lib.hid (show (w.alloc (.cells #[.int .i64 p, .int .i64 q, .int .i64 65536, .int .i64 s] 27)).heap[w.heap.size]? = some (.cells #[.int .i64 p, .int .i64 q, .int .i64 65536, .int .i64 s] 27 (0, 0)) from blk_at)
  have z0 := size_alloc w (.cells #[.int .i64 p, .int .i64 q, .int .i64 65536, .int .i64 s] 27)
  refine (KN.out _).mono ?_
  rintro e w1 ⟨l, rfl, L1, g1, hl⟩
  have B1 := Lib.hid ((g1.block _ (blk_lt B0.out) (by simp)).trans B0.out)
  have H1 := Lib.hid L1
  have G1 := Lib.hid (gb_trans (World.grownBy_alloc w (.cells #[.int .i64 p, .int .i64 q, .int .i64 65536, .int .i64 s] 27) none) g1)
  have hl' : w.heap.size < l := by omega
  clear L1 g1 hl z0
  go_wp2_with fail
  refine (KR.out l w1).mono ?_
  rintro e w' ⟨rfl, rfl⟩
  have KB := Lib.hid (broken_calls l _ w1 H1.out)
  go_wp2_with fail
  refine (KA.out _).mono ?_
  rintro e w' ⟨rfl, rfl⟩
  go_wp2_with fail
  refine KB.out.mono ?_
  rintro e w' ⟨rfl, rfl⟩
  rw [hbr]
  go_wp2_with fail
  refine (KW.out _).mono ?_
  rintro e w9 ⟨rfl, g9⟩
  have G9 := Lib.hid (gb_trans G1.out g9)
  clear g9
  go_wp2
  go_ret
  exact ⟨rfl, G9.out⟩

set_option maxRecDepth 100000 in
theorem rn_cap_w (p q r0 s m : Int) (a b n : Nat) (x y : St) (w : World) (hm : m = 65536) (hr : 65536 < r0) (a0 : 1 ≤ a) (a1 : a ≤ 16384) (b0 : 1 ≤ b) (b1 : b ≤ 16384) (hmul : 4 * (a : Int) * (b : Int) = (n : Int)) (n1 : n ≤ 1073741824) (hp : p < (a : Int)) (KN : Hid (∀ w, Calls Try.prog 12 #[.agg #[.int .i64 p, .int .i64 q, .int .i64 m, .int .i64 s]] w fun e w' => ∃ b, e = .returned (.pointer (some ⟨b, 0, none⟩)) ∧ Led b x.ls w' ∧ w.grownBy w' none ∧ w.heap.size ≤ b)) (hbr : (y.ls.br != 0) = true) (hby : y.ls.by_ = 0)
    (KR : Hid (∀ l w, Led l x.ls w → Calls Try.prog 23 #[.pointer (some ⟨l, 0, none⟩), .int .i64 a, .int .i64 b] w fun e w' => e = .returned (.tuple #[.pointer none, .int .i64 4]) ∧ Led l y.ls w' ∧ w.grownBy w' (some l))) :
    Calls Try.prog 5 #[.agg #[.int .i64 p, .int .i64 q, .int .i64 r0, .int .i64 s], .int .i64 a, .int .i64 b] w fun e w' => e = .returned (.bool true) ∧ w.grownBy w' none := by
  have KA := Lib.hid (fun w => new_arg a b w)
  have KW := Lib.hid (fun w => awake_calls w)
  subst hm
  go_enter Try.func5, Try.ntmps5
  go_wp2_with fail
  have B0 := Lib.hid (show (w.alloc (.cells #[.int .i64 p, .int .i64 q, .int .i64 65536, .int .i64 s] 27)).heap[w.heap.size]? = some (.cells #[.int .i64 p, .int .i64 q, .int .i64 65536, .int .i64 s] 27 (0, 0)) from blk_at)
  have z0 := size_alloc w (.cells #[.int .i64 p, .int .i64 q, .int .i64 65536, .int .i64 s] 27)
  refine (KN.out _).mono ?_
  rintro e w1 ⟨l, rfl, L1, g1, hl⟩
  have B1 := Lib.hid ((g1.block _ (blk_lt B0.out) (by simp)).trans B0.out)
  have H1 := Lib.hid L1
  have G1 := Lib.hid (gb_trans (World.grownBy_alloc w (.cells #[.int .i64 p, .int .i64 q, .int .i64 65536, .int .i64 s] 27) none) g1)
  have hl' : w.heap.size < l := by omega
  clear L1 g1 hl z0
  go_wp2_with fail
  refine (KR.out l w1 H1.out).mono ?_
  rintro e w2 ⟨rfl, L2, g2⟩
  have B2 := Lib.hid ((g2.block _ (blk_lt B1.out) (by simp; omega)).trans B1.out)
  have KB := Lib.hid (broken_calls l _ w2 L2)
  have KY := Lib.hid (bytes_calls l _ w2 L2)
  have G2 := Lib.hid (gb_new G1.out (by omega) g2)
  clear L2 g2
  have d0 := blk_cell B2.out 0
  have d1 := blk_cell B2.out 1
  have d2 := blk_cell B2.out 2
  simp only [List.getElem?_toArray, List.getElem?_cons_succ, List.getElem?_cons_zero] at d0 d1 d2
  go_wp2_with fail
  refine (KA.out _).mono ?_
  rintro e w' ⟨rfl, rfl⟩
  go_wp2_with fail
  refine KB.out.mono ?_
  rintro e w' ⟨rfl, rfl⟩
  rw [hbr]
  go_wp2_with fail
  refine KY.out.mono ?_
  rintro e w' ⟨rfl, rfl⟩
  rw [hby]
  go_wp2_with fail
  refine (KW.out _).mono ?_
  rintro e w9 ⟨rfl, g9⟩
  have G9 := Lib.hid (gb_trans G2.out g9)
  clear g9
  go_wp2
  go_ret
  exact ⟨rfl, G9.out⟩

set_option maxRecDepth 100000 in
theorem rn_cap_h (p q r0 s m : Int) (a b n : Nat) (x y : St) (w : World) (hm : m = 65536) (hr : 65536 < r0) (a0 : 1 ≤ a) (a1 : a ≤ 16384) (b0 : 1 ≤ b) (b1 : b ≤ 16384) (hmul : 4 * (a : Int) * (b : Int) = (n : Int)) (n1 : n ≤ 1073741824) (hp : (a : Int) ≤ p) (hq : q < (b : Int)) (KN : Hid (∀ w, Calls Try.prog 12 #[.agg #[.int .i64 p, .int .i64 q, .int .i64 m, .int .i64 s]] w fun e w' => ∃ b, e = .returned (.pointer (some ⟨b, 0, none⟩)) ∧ Led b x.ls w' ∧ w.grownBy w' none ∧ w.heap.size ≤ b)) (hbr : (y.ls.br != 0) = true) (hby : y.ls.by_ = 0)
    (KR : Hid (∀ l w, Led l x.ls w → Calls Try.prog 23 #[.pointer (some ⟨l, 0, none⟩), .int .i64 a, .int .i64 b] w fun e w' => e = .returned (.tuple #[.pointer none, .int .i64 4]) ∧ Led l y.ls w' ∧ w.grownBy w' (some l))) :
    Calls Try.prog 5 #[.agg #[.int .i64 p, .int .i64 q, .int .i64 r0, .int .i64 s], .int .i64 a, .int .i64 b] w fun e w' => e = .returned (.bool true) ∧ w.grownBy w' none := by
  have KA := Lib.hid (fun w => new_arg a b w)
  have KW := Lib.hid (fun w => awake_calls w)
  subst hm
  go_enter Try.func5, Try.ntmps5
  go_wp2_with fail
  have B0 := Lib.hid (show (w.alloc (.cells #[.int .i64 p, .int .i64 q, .int .i64 65536, .int .i64 s] 27)).heap[w.heap.size]? = some (.cells #[.int .i64 p, .int .i64 q, .int .i64 65536, .int .i64 s] 27 (0, 0)) from blk_at)
  have z0 := size_alloc w (.cells #[.int .i64 p, .int .i64 q, .int .i64 65536, .int .i64 s] 27)
  refine (KN.out _).mono ?_
  rintro e w1 ⟨l, rfl, L1, g1, hl⟩
  have B1 := Lib.hid ((g1.block _ (blk_lt B0.out) (by simp)).trans B0.out)
  have H1 := Lib.hid L1
  have G1 := Lib.hid (gb_trans (World.grownBy_alloc w (.cells #[.int .i64 p, .int .i64 q, .int .i64 65536, .int .i64 s] 27) none) g1)
  have hl' : w.heap.size < l := by omega
  clear L1 g1 hl z0
  go_wp2_with fail
  refine (KR.out l w1 H1.out).mono ?_
  rintro e w2 ⟨rfl, L2, g2⟩
  have B2 := Lib.hid ((g2.block _ (blk_lt B1.out) (by simp; omega)).trans B1.out)
  have KB := Lib.hid (broken_calls l _ w2 L2)
  have KY := Lib.hid (bytes_calls l _ w2 L2)
  have G2 := Lib.hid (gb_new G1.out (by omega) g2)
  clear L2 g2
  have d0 := blk_cell B2.out 0
  have d1 := blk_cell B2.out 1
  have d2 := blk_cell B2.out 2
  simp only [List.getElem?_toArray, List.getElem?_cons_succ, List.getElem?_cons_zero] at d0 d1 d2
  go_wp2_with fail
  refine (KA.out _).mono ?_
  rintro e w' ⟨rfl, rfl⟩
  go_wp2_with fail
  refine KB.out.mono ?_
  rintro e w' ⟨rfl, rfl⟩
  rw [hbr]
  go_wp2_with fail
  refine KY.out.mono ?_
  rintro e w' ⟨rfl, rfl⟩
  rw [hby]
  go_wp2_with fail
  refine (KW.out _).mono ?_
  rintro e w9 ⟨rfl, g9⟩
  have G9 := Lib.hid (gb_trans G2.out g9)
  clear g9
  go_wp2
  go_ret
  exact ⟨rfl, G9.out⟩

set_option maxRecDepth 100000 in
theorem rn_cap_n (p q r0 s m : Int) (a b n : Nat) (x y : St) (w : World) (hm : m = 65536) (hr : 65536 < r0) (a0 : 1 ≤ a) (a1 : a ≤ 16384) (b0 : 1 ≤ b) (b1 : b ≤ 16384) (hmul : 4 * (a : Int) * (b : Int) = (n : Int)) (n1 : n ≤ 1073741824) (hp : (a : Int) ≤ p) (hq : (b : Int) ≤ q) (hn : m < (n : Int)) (KN : Hid (∀ w, Calls Try.prog 12 #[.agg #[.int .i64 p, .int .i64 q, .int .i64 m, .int .i64 s]] w fun e w' => ∃ b, e = .returned (.pointer (some ⟨b, 0, none⟩)) ∧ Led b x.ls w' ∧ w.grownBy w' none ∧ w.heap.size ≤ b)) (hbr : (y.ls.br != 0) = true) (hby : y.ls.by_ = 0)
    (KR : Hid (∀ l w, Led l x.ls w → Calls Try.prog 23 #[.pointer (some ⟨l, 0, none⟩), .int .i64 a, .int .i64 b] w fun e w' => e = .returned (.tuple #[.pointer none, .int .i64 4]) ∧ Led l y.ls w' ∧ w.grownBy w' (some l))) :
    Calls Try.prog 5 #[.agg #[.int .i64 p, .int .i64 q, .int .i64 r0, .int .i64 s], .int .i64 a, .int .i64 b] w fun e w' => e = .returned (.bool true) ∧ w.grownBy w' none := by
  have KA := Lib.hid (fun w => new_arg a b w)
  have KW := Lib.hid (fun w => awake_calls w)
  subst hm
  go_enter Try.func5, Try.ntmps5
  go_wp2_with fail
  have B0 := Lib.hid (show (w.alloc (.cells #[.int .i64 p, .int .i64 q, .int .i64 65536, .int .i64 s] 27)).heap[w.heap.size]? = some (.cells #[.int .i64 p, .int .i64 q, .int .i64 65536, .int .i64 s] 27 (0, 0)) from blk_at)
  have z0 := size_alloc w (.cells #[.int .i64 p, .int .i64 q, .int .i64 65536, .int .i64 s] 27)
  refine (KN.out _).mono ?_
  rintro e w1 ⟨l, rfl, L1, g1, hl⟩
  have B1 := Lib.hid ((g1.block _ (blk_lt B0.out) (by simp)).trans B0.out)
  have H1 := Lib.hid L1
  have G1 := Lib.hid (gb_trans (World.grownBy_alloc w (.cells #[.int .i64 p, .int .i64 q, .int .i64 65536, .int .i64 s] 27) none) g1)
  have hl' : w.heap.size < l := by omega
  clear L1 g1 hl z0
  go_wp2_with fail
  refine (KR.out l w1 H1.out).mono ?_
  rintro e w2 ⟨rfl, L2, g2⟩
  have B2 := Lib.hid ((g2.block _ (blk_lt B1.out) (by simp; omega)).trans B1.out)
  have KB := Lib.hid (broken_calls l _ w2 L2)
  have KY := Lib.hid (bytes_calls l _ w2 L2)
  have G2 := Lib.hid (gb_new G1.out (by omega) g2)
  clear L2 g2
  have d0 := blk_cell B2.out 0
  have d1 := blk_cell B2.out 1
  have d2 := blk_cell B2.out 2
  simp only [List.getElem?_toArray, List.getElem?_cons_succ, List.getElem?_cons_zero] at d0 d1 d2
  go_wp2_with fail
  refine (KA.out _).mono ?_
  rintro e w' ⟨rfl, rfl⟩
  go_wp2_with fail
  refine KB.out.mono ?_
  rintro e w' ⟨rfl, rfl⟩
  rw [hbr]
  go_wp2_with fail
  refine KY.out.mono ?_
  rintro e w' ⟨rfl, rfl⟩
  rw [hby]
  go_wp2_with fail
  refine (KW.out _).mono ?_
  rintro e w9 ⟨rfl, g9⟩
  have G9 := Lib.hid (gb_trans G2.out g9)
  clear g9
  go_wp2
  go_ret
  exact ⟨rfl, G9.out⟩

set_option maxRecDepth 100000 in
theorem rn_cap_yes (p q r0 s m : Int) (a b n : Nat) (x y : St) (w : World) (hm : m = 65536) (hr : 65536 < r0) (a0 : 1 ≤ a) (a1 : a ≤ 16384) (b0 : 1 ≤ b) (b1 : b ≤ 16384) (hmul : 4 * (a : Int) * (b : Int) = (n : Int)) (n1 : n ≤ 1073741824) (hp : (a : Int) ≤ p) (hq : (b : Int) ≤ q) (hn : (n : Int) ≤ m) (KN : Hid (∀ w, Calls Try.prog 12 #[.agg #[.int .i64 p, .int .i64 q, .int .i64 m, .int .i64 s]] w fun e w' => ∃ b, e = .returned (.pointer (some ⟨b, 0, none⟩)) ∧ Led b x.ls w' ∧ w.grownBy w' none ∧ w.heap.size ≤ b)) (hby : y.ls.by_ = (n : Int))
    (KR : Hid (∀ l w, Led l x.ls w → Calls Try.prog 23 #[.pointer (some ⟨l, 0, none⟩), .int .i64 a, .int .i64 b] w fun e w' => ∃ r c g, e = .returned (.tuple #[.pointer (some ⟨r, 0, none⟩), .int .i64 0]) ∧ Ro r l c g a b (rep 0 (4 * (a * b))) w' ∧ Led l y.ls w' ∧ w.grownBy w' (some l) ∧ w.heap.size ≤ r ∧ w.heap.size ≤ c ∧ w.heap.size ≤ g)) :
    Calls Try.prog 5 #[.agg #[.int .i64 p, .int .i64 q, .int .i64 r0, .int .i64 s], .int .i64 a, .int .i64 b] w fun e w' => e = .returned (.bool true) ∧ w.grownBy w' none := by
  have KA := Lib.hid (fun w => new_arg a b w)
  have KW := Lib.hid (fun w => awake_calls w)
  subst hm
  go_enter Try.func5, Try.ntmps5
  go_wp2_with fail
  have B0 := Lib.hid (show (w.alloc (.cells #[.int .i64 p, .int .i64 q, .int .i64 65536, .int .i64 s] 27)).heap[w.heap.size]? = some (.cells #[.int .i64 p, .int .i64 q, .int .i64 65536, .int .i64 s] 27 (0, 0)) from blk_at)
  have z0 := size_alloc w (.cells #[.int .i64 p, .int .i64 q, .int .i64 65536, .int .i64 s] 27)
  refine (KN.out _).mono ?_
  rintro e w1 ⟨l, rfl, L1, g1, hl⟩
  have B1 := Lib.hid ((g1.block _ (blk_lt B0.out) (by simp)).trans B0.out)
  have H1 := Lib.hid L1
  have G1 := Lib.hid (gb_trans (World.grownBy_alloc w (.cells #[.int .i64 p, .int .i64 q, .int .i64 65536, .int .i64 s] 27) none) g1)
  have hl' : w.heap.size < l := by omega
  clear L1 g1 hl z0
  go_wp2_with fail
  refine (KR.out l w1 H1.out).mono ?_
  rintro e w2 ⟨r, c, g, rfl, R2, L2, g2, hr, hc, hg⟩
  have B2 := Lib.hid ((g2.block _ (blk_lt B1.out) (by simp; omega)).trans B1.out)
  have KY := Lib.hid (bytes_calls l _ w2 L2)
  have G2 := Lib.hid (gb_new G1.out (by omega) g2)
  clear R2 L2 g2
  have d0 := blk_cell B2.out 0
  have d1 := blk_cell B2.out 1
  have d2 := blk_cell B2.out 2
  simp only [List.getElem?_toArray, List.getElem?_cons_succ, List.getElem?_cons_zero] at d0 d1 d2
  go_wp2_with fail
  refine (KA.out _).mono ?_
  rintro e w' ⟨rfl, rfl⟩
  go_wp2_with fail
  refine KY.out.mono ?_
  rintro e w' ⟨rfl, rfl⟩
  rw [hby]
  go_wp2_with fail
  refine (KW.out _).mono ?_
  rintro e w9 ⟨rfl, g9⟩
  have G9 := Lib.hid (gb_trans G2.out g9)
  clear g9
  go_wp2
  go_ret
  exact ⟨rfl, G9.out⟩

set_option maxRecDepth 100000 in
theorem rn_all_bad1 (p q r0 s m a b : Int) (x : St) (w : World) (hm : m = r0) (hr : r0 ≤ 65536) (h : a < 1) (KN : Hid (∀ w, Calls Try.prog 12 #[.agg #[.int .i64 p, .int .i64 q, .int .i64 m, .int .i64 s]] w fun e w' => ∃ b, e = .returned (.pointer (some ⟨b, 0, none⟩)) ∧ Led b x.ls w' ∧ w.grownBy w' none ∧ w.heap.size ≤ b)) (hbr : (x.ls.br != 0) = false) :
    Calls Try.prog 5 #[.agg #[.int .i64 p, .int .i64 q, .int .i64 r0, .int .i64 s], .int .i64 a, .int .i64 b] w fun e w' => e = .returned (.bool true) ∧ w.grownBy w' none := by
  have KR := Lib.hid (fun l w => new_range l a b w (by unfold badS; omega))
  have KA := Lib.hid (fun w => new_arg a b w)
  have KW := Lib.hid (fun w => awake_calls w)
  subst hm
  go_enter Try.func5, Try.ntmps5
  go_wp2_with fail
  have B0 := Lib.hid (show (w.alloc (.cells #[.int .i64 p, .int .i64 q, .int .i64 m, .int .i64 s] 27)).heap[w.heap.size]? = some (.cells #[.int .i64 p, .int .i64 q, .int .i64 m, .int .i64 s] 27 (0, 0)) from blk_at)
  have z0 := size_alloc w (.cells #[.int .i64 p, .int .i64 q, .int .i64 m, .int .i64 s] 27)
  refine (KN.out _).mono ?_
  rintro e w1 ⟨l, rfl, L1, g1, hl⟩
  have B1 := Lib.hid ((g1.block _ (blk_lt B0.out) (by simp)).trans B0.out)
  have H1 := Lib.hid L1
  have G1 := Lib.hid (gb_trans (World.grownBy_alloc w (.cells #[.int .i64 p, .int .i64 q, .int .i64 m, .int .i64 s] 27) none) g1)
  have hl' : w.heap.size < l := by omega
  clear L1 g1 hl z0
  go_wp2_with fail
  refine (KR.out l w1).mono ?_
  rintro e w' ⟨rfl, rfl⟩
  have KB := Lib.hid (broken_calls l _ w1 H1.out)
  go_wp2_with fail
  refine (KA.out _).mono ?_
  rintro e w' ⟨rfl, rfl⟩
  go_wp2_with fail
  refine KB.out.mono ?_
  rintro e w' ⟨rfl, rfl⟩
  rw [hbr]
  go_wp2_with fail
  refine (KW.out _).mono ?_
  rintro e w9 ⟨rfl, g9⟩
  have G9 := Lib.hid (gb_trans G1.out g9)
  clear g9
  go_wp2
  go_ret
  exact ⟨rfl, G9.out⟩

set_option maxRecDepth 100000 in
theorem rn_all_bad2 (p q r0 s m a b : Int) (x : St) (w : World) (hm : m = r0) (hr : r0 ≤ 65536) (h : 16384 < a) (KN : Hid (∀ w, Calls Try.prog 12 #[.agg #[.int .i64 p, .int .i64 q, .int .i64 m, .int .i64 s]] w fun e w' => ∃ b, e = .returned (.pointer (some ⟨b, 0, none⟩)) ∧ Led b x.ls w' ∧ w.grownBy w' none ∧ w.heap.size ≤ b)) (hbr : (x.ls.br != 0) = false) :
    Calls Try.prog 5 #[.agg #[.int .i64 p, .int .i64 q, .int .i64 r0, .int .i64 s], .int .i64 a, .int .i64 b] w fun e w' => e = .returned (.bool true) ∧ w.grownBy w' none := by
  have KR := Lib.hid (fun l w => new_range l a b w (by unfold badS; omega))
  have KA := Lib.hid (fun w => new_arg a b w)
  have KW := Lib.hid (fun w => awake_calls w)
  have h1 : ¬ a < 1 := by omega
  subst hm
  go_enter Try.func5, Try.ntmps5
  go_wp2_with fail
  have B0 := Lib.hid (show (w.alloc (.cells #[.int .i64 p, .int .i64 q, .int .i64 m, .int .i64 s] 27)).heap[w.heap.size]? = some (.cells #[.int .i64 p, .int .i64 q, .int .i64 m, .int .i64 s] 27 (0, 0)) from blk_at)
  have z0 := size_alloc w (.cells #[.int .i64 p, .int .i64 q, .int .i64 m, .int .i64 s] 27)
  refine (KN.out _).mono ?_
  rintro e w1 ⟨l, rfl, L1, g1, hl⟩
  have B1 := Lib.hid ((g1.block _ (blk_lt B0.out) (by simp)).trans B0.out)
  have H1 := Lib.hid L1
  have G1 := Lib.hid (gb_trans (World.grownBy_alloc w (.cells #[.int .i64 p, .int .i64 q, .int .i64 m, .int .i64 s] 27) none) g1)
  have hl' : w.heap.size < l := by omega
  clear L1 g1 hl z0
  go_wp2_with fail
  refine (KR.out l w1).mono ?_
  rintro e w' ⟨rfl, rfl⟩
  have KB := Lib.hid (broken_calls l _ w1 H1.out)
  go_wp2_with fail
  refine (KA.out _).mono ?_
  rintro e w' ⟨rfl, rfl⟩
  go_wp2_with fail
  refine KB.out.mono ?_
  rintro e w' ⟨rfl, rfl⟩
  rw [hbr]
  go_wp2_with fail
  refine (KW.out _).mono ?_
  rintro e w9 ⟨rfl, g9⟩
  have G9 := Lib.hid (gb_trans G1.out g9)
  clear g9
  go_wp2
  go_ret
  exact ⟨rfl, G9.out⟩

set_option maxRecDepth 100000 in
theorem rn_all_bad3 (p q r0 s m a b : Int) (x : St) (w : World) (hm : m = r0) (hr : r0 ≤ 65536) (h1 : 1 ≤ a) (h2 : a ≤ 16384) (h : b < 1) (KN : Hid (∀ w, Calls Try.prog 12 #[.agg #[.int .i64 p, .int .i64 q, .int .i64 m, .int .i64 s]] w fun e w' => ∃ b, e = .returned (.pointer (some ⟨b, 0, none⟩)) ∧ Led b x.ls w' ∧ w.grownBy w' none ∧ w.heap.size ≤ b)) (hbr : (x.ls.br != 0) = false) :
    Calls Try.prog 5 #[.agg #[.int .i64 p, .int .i64 q, .int .i64 r0, .int .i64 s], .int .i64 a, .int .i64 b] w fun e w' => e = .returned (.bool true) ∧ w.grownBy w' none := by
  have KR := Lib.hid (fun l w => new_range l a b w (by unfold badS; omega))
  have KA := Lib.hid (fun w => new_arg a b w)
  have KW := Lib.hid (fun w => awake_calls w)
  subst hm
  go_enter Try.func5, Try.ntmps5
  go_wp2_with fail
  have B0 := Lib.hid (show (w.alloc (.cells #[.int .i64 p, .int .i64 q, .int .i64 m, .int .i64 s] 27)).heap[w.heap.size]? = some (.cells #[.int .i64 p, .int .i64 q, .int .i64 m, .int .i64 s] 27 (0, 0)) from blk_at)
  have z0 := size_alloc w (.cells #[.int .i64 p, .int .i64 q, .int .i64 m, .int .i64 s] 27)
  refine (KN.out _).mono ?_
  rintro e w1 ⟨l, rfl, L1, g1, hl⟩
  have B1 := Lib.hid ((g1.block _ (blk_lt B0.out) (by simp)).trans B0.out)
  have H1 := Lib.hid L1
  have G1 := Lib.hid (gb_trans (World.grownBy_alloc w (.cells #[.int .i64 p, .int .i64 q, .int .i64 m, .int .i64 s] 27) none) g1)
  have hl' : w.heap.size < l := by omega
  clear L1 g1 hl z0
  go_wp2_with fail
  refine (KR.out l w1).mono ?_
  rintro e w' ⟨rfl, rfl⟩
  have KB := Lib.hid (broken_calls l _ w1 H1.out)
  go_wp2_with fail
  refine (KA.out _).mono ?_
  rintro e w' ⟨rfl, rfl⟩
  go_wp2_with fail
  refine KB.out.mono ?_
  rintro e w' ⟨rfl, rfl⟩
  rw [hbr]
  go_wp2_with fail
  refine (KW.out _).mono ?_
  rintro e w9 ⟨rfl, g9⟩
  have G9 := Lib.hid (gb_trans G1.out g9)
  clear g9
  go_wp2
  go_ret
  exact ⟨rfl, G9.out⟩

set_option maxRecDepth 100000 in
theorem rn_all_bad4 (p q r0 s m a b : Int) (x : St) (w : World) (hm : m = r0) (hr : r0 ≤ 65536) (h1 : 1 ≤ a) (h2 : a ≤ 16384) (h : 16384 < b) (KN : Hid (∀ w, Calls Try.prog 12 #[.agg #[.int .i64 p, .int .i64 q, .int .i64 m, .int .i64 s]] w fun e w' => ∃ b, e = .returned (.pointer (some ⟨b, 0, none⟩)) ∧ Led b x.ls w' ∧ w.grownBy w' none ∧ w.heap.size ≤ b)) (hbr : (x.ls.br != 0) = false) :
    Calls Try.prog 5 #[.agg #[.int .i64 p, .int .i64 q, .int .i64 r0, .int .i64 s], .int .i64 a, .int .i64 b] w fun e w' => e = .returned (.bool true) ∧ w.grownBy w' none := by
  have KR := Lib.hid (fun l w => new_range l a b w (by unfold badS; omega))
  have KA := Lib.hid (fun w => new_arg a b w)
  have KW := Lib.hid (fun w => awake_calls w)
  have h3 : ¬ b < 1 := by omega
  subst hm
  go_enter Try.func5, Try.ntmps5
  go_wp2_with fail
  have B0 := Lib.hid (show (w.alloc (.cells #[.int .i64 p, .int .i64 q, .int .i64 m, .int .i64 s] 27)).heap[w.heap.size]? = some (.cells #[.int .i64 p, .int .i64 q, .int .i64 m, .int .i64 s] 27 (0, 0)) from blk_at)
  have z0 := size_alloc w (.cells #[.int .i64 p, .int .i64 q, .int .i64 m, .int .i64 s] 27)
  refine (KN.out _).mono ?_
  rintro e w1 ⟨l, rfl, L1, g1, hl⟩
  have B1 := Lib.hid ((g1.block _ (blk_lt B0.out) (by simp)).trans B0.out)
  have H1 := Lib.hid L1
  have G1 := Lib.hid (gb_trans (World.grownBy_alloc w (.cells #[.int .i64 p, .int .i64 q, .int .i64 m, .int .i64 s] 27) none) g1)
  have hl' : w.heap.size < l := by omega
  clear L1 g1 hl z0
  go_wp2_with fail
  refine (KR.out l w1).mono ?_
  rintro e w' ⟨rfl, rfl⟩
  have KB := Lib.hid (broken_calls l _ w1 H1.out)
  go_wp2_with fail
  refine (KA.out _).mono ?_
  rintro e w' ⟨rfl, rfl⟩
  go_wp2_with fail
  refine KB.out.mono ?_
  rintro e w' ⟨rfl, rfl⟩
  rw [hbr]
  go_wp2_with fail
  refine (KW.out _).mono ?_
  rintro e w9 ⟨rfl, g9⟩
  have G9 := Lib.hid (gb_trans G1.out g9)
  clear g9
  go_wp2
  go_ret
  exact ⟨rfl, G9.out⟩

set_option maxRecDepth 100000 in
theorem rn_all_w (p q r0 s m : Int) (a b n : Nat) (x y : St) (w : World) (hm : m = r0) (hr : r0 ≤ 65536) (a0 : 1 ≤ a) (a1 : a ≤ 16384) (b0 : 1 ≤ b) (b1 : b ≤ 16384) (hmul : 4 * (a : Int) * (b : Int) = (n : Int)) (n1 : n ≤ 1073741824) (hp : p < (a : Int)) (KN : Hid (∀ w, Calls Try.prog 12 #[.agg #[.int .i64 p, .int .i64 q, .int .i64 m, .int .i64 s]] w fun e w' => ∃ b, e = .returned (.pointer (some ⟨b, 0, none⟩)) ∧ Led b x.ls w' ∧ w.grownBy w' none ∧ w.heap.size ≤ b)) (hbr : (y.ls.br != 0) = true) (hby : y.ls.by_ = 0)
    (KR : Hid (∀ l w, Led l x.ls w → Calls Try.prog 23 #[.pointer (some ⟨l, 0, none⟩), .int .i64 a, .int .i64 b] w fun e w' => e = .returned (.tuple #[.pointer none, .int .i64 4]) ∧ Led l y.ls w' ∧ w.grownBy w' (some l))) :
    Calls Try.prog 5 #[.agg #[.int .i64 p, .int .i64 q, .int .i64 r0, .int .i64 s], .int .i64 a, .int .i64 b] w fun e w' => e = .returned (.bool true) ∧ w.grownBy w' none := by
  have KA := Lib.hid (fun w => new_arg a b w)
  have KW := Lib.hid (fun w => awake_calls w)
  subst hm
  go_enter Try.func5, Try.ntmps5
  go_wp2_with fail
  have B0 := Lib.hid (show (w.alloc (.cells #[.int .i64 p, .int .i64 q, .int .i64 m, .int .i64 s] 27)).heap[w.heap.size]? = some (.cells #[.int .i64 p, .int .i64 q, .int .i64 m, .int .i64 s] 27 (0, 0)) from blk_at)
  have z0 := size_alloc w (.cells #[.int .i64 p, .int .i64 q, .int .i64 m, .int .i64 s] 27)
  refine (KN.out _).mono ?_
  rintro e w1 ⟨l, rfl, L1, g1, hl⟩
  have B1 := Lib.hid ((g1.block _ (blk_lt B0.out) (by simp)).trans B0.out)
  have H1 := Lib.hid L1
  have G1 := Lib.hid (gb_trans (World.grownBy_alloc w (.cells #[.int .i64 p, .int .i64 q, .int .i64 m, .int .i64 s] 27) none) g1)
  have hl' : w.heap.size < l := by omega
  clear L1 g1 hl z0
  go_wp2_with fail
  refine (KR.out l w1 H1.out).mono ?_
  rintro e w2 ⟨rfl, L2, g2⟩
  have B2 := Lib.hid ((g2.block _ (blk_lt B1.out) (by simp; omega)).trans B1.out)
  have KB := Lib.hid (broken_calls l _ w2 L2)
  have KY := Lib.hid (bytes_calls l _ w2 L2)
  have G2 := Lib.hid (gb_new G1.out (by omega) g2)
  clear L2 g2
  have d0 := blk_cell B2.out 0
  have d1 := blk_cell B2.out 1
  have d2 := blk_cell B2.out 2
  simp only [List.getElem?_toArray, List.getElem?_cons_succ, List.getElem?_cons_zero] at d0 d1 d2
  go_wp2_with fail
  refine (KA.out _).mono ?_
  rintro e w' ⟨rfl, rfl⟩
  go_wp2_with fail
  refine KB.out.mono ?_
  rintro e w' ⟨rfl, rfl⟩
  rw [hbr]
  go_wp2_with fail
  refine KY.out.mono ?_
  rintro e w' ⟨rfl, rfl⟩
  rw [hby]
  go_wp2_with fail
  refine (KW.out _).mono ?_
  rintro e w9 ⟨rfl, g9⟩
  have G9 := Lib.hid (gb_trans G2.out g9)
  clear g9
  go_wp2
  go_ret
  exact ⟨rfl, G9.out⟩

set_option maxRecDepth 100000 in
theorem rn_all_h (p q r0 s m : Int) (a b n : Nat) (x y : St) (w : World) (hm : m = r0) (hr : r0 ≤ 65536) (a0 : 1 ≤ a) (a1 : a ≤ 16384) (b0 : 1 ≤ b) (b1 : b ≤ 16384) (hmul : 4 * (a : Int) * (b : Int) = (n : Int)) (n1 : n ≤ 1073741824) (hp : (a : Int) ≤ p) (hq : q < (b : Int)) (KN : Hid (∀ w, Calls Try.prog 12 #[.agg #[.int .i64 p, .int .i64 q, .int .i64 m, .int .i64 s]] w fun e w' => ∃ b, e = .returned (.pointer (some ⟨b, 0, none⟩)) ∧ Led b x.ls w' ∧ w.grownBy w' none ∧ w.heap.size ≤ b)) (hbr : (y.ls.br != 0) = true) (hby : y.ls.by_ = 0)
    (KR : Hid (∀ l w, Led l x.ls w → Calls Try.prog 23 #[.pointer (some ⟨l, 0, none⟩), .int .i64 a, .int .i64 b] w fun e w' => e = .returned (.tuple #[.pointer none, .int .i64 4]) ∧ Led l y.ls w' ∧ w.grownBy w' (some l))) :
    Calls Try.prog 5 #[.agg #[.int .i64 p, .int .i64 q, .int .i64 r0, .int .i64 s], .int .i64 a, .int .i64 b] w fun e w' => e = .returned (.bool true) ∧ w.grownBy w' none := by
  have KA := Lib.hid (fun w => new_arg a b w)
  have KW := Lib.hid (fun w => awake_calls w)
  subst hm
  go_enter Try.func5, Try.ntmps5
  go_wp2_with fail
  have B0 := Lib.hid (show (w.alloc (.cells #[.int .i64 p, .int .i64 q, .int .i64 m, .int .i64 s] 27)).heap[w.heap.size]? = some (.cells #[.int .i64 p, .int .i64 q, .int .i64 m, .int .i64 s] 27 (0, 0)) from blk_at)
  have z0 := size_alloc w (.cells #[.int .i64 p, .int .i64 q, .int .i64 m, .int .i64 s] 27)
  refine (KN.out _).mono ?_
  rintro e w1 ⟨l, rfl, L1, g1, hl⟩
  have B1 := Lib.hid ((g1.block _ (blk_lt B0.out) (by simp)).trans B0.out)
  have H1 := Lib.hid L1
  have G1 := Lib.hid (gb_trans (World.grownBy_alloc w (.cells #[.int .i64 p, .int .i64 q, .int .i64 m, .int .i64 s] 27) none) g1)
  have hl' : w.heap.size < l := by omega
  clear L1 g1 hl z0
  go_wp2_with fail
  refine (KR.out l w1 H1.out).mono ?_
  rintro e w2 ⟨rfl, L2, g2⟩
  have B2 := Lib.hid ((g2.block _ (blk_lt B1.out) (by simp; omega)).trans B1.out)
  have KB := Lib.hid (broken_calls l _ w2 L2)
  have KY := Lib.hid (bytes_calls l _ w2 L2)
  have G2 := Lib.hid (gb_new G1.out (by omega) g2)
  clear L2 g2
  have d0 := blk_cell B2.out 0
  have d1 := blk_cell B2.out 1
  have d2 := blk_cell B2.out 2
  simp only [List.getElem?_toArray, List.getElem?_cons_succ, List.getElem?_cons_zero] at d0 d1 d2
  go_wp2_with fail
  refine (KA.out _).mono ?_
  rintro e w' ⟨rfl, rfl⟩
  go_wp2_with fail
  refine KB.out.mono ?_
  rintro e w' ⟨rfl, rfl⟩
  rw [hbr]
  go_wp2_with fail
  refine KY.out.mono ?_
  rintro e w' ⟨rfl, rfl⟩
  rw [hby]
  go_wp2_with fail
  refine (KW.out _).mono ?_
  rintro e w9 ⟨rfl, g9⟩
  have G9 := Lib.hid (gb_trans G2.out g9)
  clear g9
  go_wp2
  go_ret
  exact ⟨rfl, G9.out⟩

set_option maxRecDepth 100000 in
theorem rn_all_n (p q r0 s m : Int) (a b n : Nat) (x y : St) (w : World) (hm : m = r0) (hr : r0 ≤ 65536) (a0 : 1 ≤ a) (a1 : a ≤ 16384) (b0 : 1 ≤ b) (b1 : b ≤ 16384) (hmul : 4 * (a : Int) * (b : Int) = (n : Int)) (n1 : n ≤ 1073741824) (hp : (a : Int) ≤ p) (hq : (b : Int) ≤ q) (hn : m < (n : Int)) (KN : Hid (∀ w, Calls Try.prog 12 #[.agg #[.int .i64 p, .int .i64 q, .int .i64 m, .int .i64 s]] w fun e w' => ∃ b, e = .returned (.pointer (some ⟨b, 0, none⟩)) ∧ Led b x.ls w' ∧ w.grownBy w' none ∧ w.heap.size ≤ b)) (hbr : (y.ls.br != 0) = true) (hby : y.ls.by_ = 0)
    (KR : Hid (∀ l w, Led l x.ls w → Calls Try.prog 23 #[.pointer (some ⟨l, 0, none⟩), .int .i64 a, .int .i64 b] w fun e w' => e = .returned (.tuple #[.pointer none, .int .i64 4]) ∧ Led l y.ls w' ∧ w.grownBy w' (some l))) :
    Calls Try.prog 5 #[.agg #[.int .i64 p, .int .i64 q, .int .i64 r0, .int .i64 s], .int .i64 a, .int .i64 b] w fun e w' => e = .returned (.bool true) ∧ w.grownBy w' none := by
  have KA := Lib.hid (fun w => new_arg a b w)
  have KW := Lib.hid (fun w => awake_calls w)
  subst hm
  go_enter Try.func5, Try.ntmps5
  go_wp2_with fail
  have B0 := Lib.hid (show (w.alloc (.cells #[.int .i64 p, .int .i64 q, .int .i64 m, .int .i64 s] 27)).heap[w.heap.size]? = some (.cells #[.int .i64 p, .int .i64 q, .int .i64 m, .int .i64 s] 27 (0, 0)) from blk_at)
  have z0 := size_alloc w (.cells #[.int .i64 p, .int .i64 q, .int .i64 m, .int .i64 s] 27)
  refine (KN.out _).mono ?_
  rintro e w1 ⟨l, rfl, L1, g1, hl⟩
  have B1 := Lib.hid ((g1.block _ (blk_lt B0.out) (by simp)).trans B0.out)
  have H1 := Lib.hid L1
  have G1 := Lib.hid (gb_trans (World.grownBy_alloc w (.cells #[.int .i64 p, .int .i64 q, .int .i64 m, .int .i64 s] 27) none) g1)
  have hl' : w.heap.size < l := by omega
  clear L1 g1 hl z0
  go_wp2_with fail
  refine (KR.out l w1 H1.out).mono ?_
  rintro e w2 ⟨rfl, L2, g2⟩
  have B2 := Lib.hid ((g2.block _ (blk_lt B1.out) (by simp; omega)).trans B1.out)
  have KB := Lib.hid (broken_calls l _ w2 L2)
  have KY := Lib.hid (bytes_calls l _ w2 L2)
  have G2 := Lib.hid (gb_new G1.out (by omega) g2)
  clear L2 g2
  have d0 := blk_cell B2.out 0
  have d1 := blk_cell B2.out 1
  have d2 := blk_cell B2.out 2
  simp only [List.getElem?_toArray, List.getElem?_cons_succ, List.getElem?_cons_zero] at d0 d1 d2
  go_wp2_with fail
  refine (KA.out _).mono ?_
  rintro e w' ⟨rfl, rfl⟩
  go_wp2_with fail
  refine KB.out.mono ?_
  rintro e w' ⟨rfl, rfl⟩
  rw [hbr]
  go_wp2_with fail
  refine KY.out.mono ?_
  rintro e w' ⟨rfl, rfl⟩
  rw [hby]
  go_wp2_with fail
  refine (KW.out _).mono ?_
  rintro e w9 ⟨rfl, g9⟩
  have G9 := Lib.hid (gb_trans G2.out g9)
  clear g9
  go_wp2
  go_ret
  exact ⟨rfl, G9.out⟩

set_option maxRecDepth 100000 in
theorem rn_all_yes (p q r0 s m : Int) (a b n : Nat) (x y : St) (w : World) (hm : m = r0) (hr : r0 ≤ 65536) (a0 : 1 ≤ a) (a1 : a ≤ 16384) (b0 : 1 ≤ b) (b1 : b ≤ 16384) (hmul : 4 * (a : Int) * (b : Int) = (n : Int)) (n1 : n ≤ 1073741824) (hp : (a : Int) ≤ p) (hq : (b : Int) ≤ q) (hn : (n : Int) ≤ m) (KN : Hid (∀ w, Calls Try.prog 12 #[.agg #[.int .i64 p, .int .i64 q, .int .i64 m, .int .i64 s]] w fun e w' => ∃ b, e = .returned (.pointer (some ⟨b, 0, none⟩)) ∧ Led b x.ls w' ∧ w.grownBy w' none ∧ w.heap.size ≤ b)) (hby : y.ls.by_ = (n : Int))
    (KR : Hid (∀ l w, Led l x.ls w → Calls Try.prog 23 #[.pointer (some ⟨l, 0, none⟩), .int .i64 a, .int .i64 b] w fun e w' => ∃ r c g, e = .returned (.tuple #[.pointer (some ⟨r, 0, none⟩), .int .i64 0]) ∧ Ro r l c g a b (rep 0 (4 * (a * b))) w' ∧ Led l y.ls w' ∧ w.grownBy w' (some l) ∧ w.heap.size ≤ r ∧ w.heap.size ≤ c ∧ w.heap.size ≤ g)) :
    Calls Try.prog 5 #[.agg #[.int .i64 p, .int .i64 q, .int .i64 r0, .int .i64 s], .int .i64 a, .int .i64 b] w fun e w' => e = .returned (.bool true) ∧ w.grownBy w' none := by
  have KA := Lib.hid (fun w => new_arg a b w)
  have KW := Lib.hid (fun w => awake_calls w)
  subst hm
  go_enter Try.func5, Try.ntmps5
  go_wp2_with fail
  have B0 := Lib.hid (show (w.alloc (.cells #[.int .i64 p, .int .i64 q, .int .i64 m, .int .i64 s] 27)).heap[w.heap.size]? = some (.cells #[.int .i64 p, .int .i64 q, .int .i64 m, .int .i64 s] 27 (0, 0)) from blk_at)
  have z0 := size_alloc w (.cells #[.int .i64 p, .int .i64 q, .int .i64 m, .int .i64 s] 27)
  refine (KN.out _).mono ?_
  rintro e w1 ⟨l, rfl, L1, g1, hl⟩
  have B1 := Lib.hid ((g1.block _ (blk_lt B0.out) (by simp)).trans B0.out)
  have H1 := Lib.hid L1
  have G1 := Lib.hid (gb_trans (World.grownBy_alloc w (.cells #[.int .i64 p, .int .i64 q, .int .i64 m, .int .i64 s] 27) none) g1)
  have hl' : w.heap.size < l := by omega
  clear L1 g1 hl z0
  go_wp2_with fail
  refine (KR.out l w1 H1.out).mono ?_
  rintro e w2 ⟨r, c, g, rfl, R2, L2, g2, hr, hc, hg⟩
  have B2 := Lib.hid ((g2.block _ (blk_lt B1.out) (by simp; omega)).trans B1.out)
  have KY := Lib.hid (bytes_calls l _ w2 L2)
  have G2 := Lib.hid (gb_new G1.out (by omega) g2)
  clear R2 L2 g2
  have d0 := blk_cell B2.out 0
  have d1 := blk_cell B2.out 1
  have d2 := blk_cell B2.out 2
  simp only [List.getElem?_toArray, List.getElem?_cons_succ, List.getElem?_cons_zero] at d0 d1 d2
  go_wp2_with fail
  refine (KA.out _).mono ?_
  rintro e w' ⟨rfl, rfl⟩
  go_wp2_with fail
  refine KY.out.mono ?_
  rintro e w' ⟨rfl, rfl⟩
  rw [hby]
  go_wp2_with fail
  refine (KW.out _).mono ?_
  rintro e w9 ⟨rfl, g9⟩
  have G9 := Lib.hid (gb_trans G2.out g9)
  clear g9
  go_wp2
  go_ret
  exact ⟨rfl, G9.out⟩

end Go.Proofs.Ythgpjdnppknghaa.Ra
