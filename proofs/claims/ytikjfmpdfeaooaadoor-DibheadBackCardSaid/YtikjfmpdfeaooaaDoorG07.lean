/- Texts of one kind, one behind the other: Dh4. -/
import Derived.Deep.Cut
import Derived.Deep.RegionHeld3
import Derived.Test.YtikjfmpdfeaooaaDoorG06
/- Layer 20: a head's numbers, walked (written by wip/gen/dh4.py). -/
namespace Go.Proofs.YtikjfmpdfeaooaaDoor.Dh
open Go.ChangeShapes Go.WideShapes Go.ChangeAt Go.RowKit
open Go.Proofs.YtikjfmpdfeaooaaDoor.Le Go.Proofs.YtikjfmpdfeaooaaDoor.Sr
set_option linter.unusedVariables false

theorem abs_w {Q R : World → Prop} {w : World} (h : R w) (k : ∀ w', R w' → Q w') : Q w := k w h
/-- The result's block, the places', the numbers'. -/
structure NI (W : World) (pb nb : Nat) (P A : Array Value) (w : World) : Prop where
  r : w.heap[W.heap.size]? = some (.cells #[.int .i64 0, .int .i64 0, .int .i64 0, .int .i64 0, .int .i64 0, .int .i64 0, .int .i64 0] 62 (0, 0))
  p : w.heap[pb]? = some (.cells P 104 (0, 0))
  n : w.heap[nb]? = some (.cells A 62 (0, 0))
  gb : W.grownBy w none
theorem NI.set {W w : World} {pb nb : Nat} {P A : Array Value} (h : NI W pb nb P A w) (h1 : W.heap.size < pb) (h2 : pb < nb) (i : Nat) (v : Value) : NI W pb nb P (A.setIfInBounds i v) (w.setCell ⟨nb, i, none⟩ v) := by
  refine ⟨blk_other h.r (by omega), blk_other h.p (by omega), ?_, gb_own h.gb (by omega) (gb_set _ _ _ _)⟩
  rw [blk_set h.n]

set_option maxRecDepth 100000 in
set_option maxHeartbeats 4000000 in
theorem numbers_short (z : ByteArray) (hz : z.size = 12) (W : World) :
    Calls Tryd.prog 22 #[.string z] W fun e w' => e = .returned (.agg (nV z)) ∧ W.grownBy w' none := by
  have KP := fun u => places_calls (z.size : Nat) u
  rw [show pcA (z.size : Nat) = #[.int .i64 6, .int .i64 8, .int .i64 10] from by unfold pcA; rw [if_pos (by omega)]] at KP
  have KP := Lib.hid KP
  obtain ⟨n, hn⟩ : ∃ n : Nat, z.size = n := ⟨_, rfl⟩
  have KPl := Lib.hid (show ∀ u, Calls Tryd.prog 46 #[.string z, .int .i64 8, .int .i64 2] u fun e w' => e = .returned (.int .i64 ((w2 z 8 : Nat))) ∧ u = w' from fun u => n16_calls z 8 u (by omega) (by omega))
  have KDe := Lib.hid (show ∀ u, Calls Tryd.prog 46 #[.string z, .int .i64 10, .int .i64 2] u fun e w' => e = .returned (.int .i64 ((w2 z 10 : Nat))) ∧ u = w' from fun u => n16_calls z 10 u (by omega) (by omega))
  have KW := Lib.hid (show ∀ u, Calls Tryd.prog 46 #[.string z, .int .i64 4, .int .i64 2] u fun e w' => e = .returned (.int .i64 ((w2 z 4 : Nat))) ∧ u = w' from fun u => n16_calls z 4 u (by omega) (by omega))
  have KH := Lib.hid (show ∀ u, Calls Tryd.prog 46 #[.string z, .int .i64 6, .int .i64 2] u fun e w' => e = .returned (.int .i64 ((w2 z 6 : Nat))) ∧ u = w' from fun u => n16_calls z 6 u (by omega) (by omega))
  rw [show nV z = #[.int .i64 (z.size : Nat), .int .i64 (w2 z 4 : Nat), .int .i64 (w2 z 6 : Nat), .int .i64 (w2 z 8 : Nat), .int .i64 (w2 z 10 : Nat), .int .i64 0, .int .i64 0] from by unfold nV nW nH nP nD nM nC; simp only [if_pos hz]; rfl]
  have hn12 : (((n : Nat) : Int) == 12) = true := by rw [beq_iff_eq]; omega
  have hsz : ((z.size : Nat) : Int) = (n : Int) := by omega
  rw [hsz] at KP ⊢
  obtain ⟨vP, hvP⟩ : ∃ v : Int, ((w2 z 8 : Nat) : Int) = v := ⟨_, rfl⟩
  obtain ⟨vD, hvD⟩ : ∃ v : Int, ((w2 z 10 : Nat) : Int) = v := ⟨_, rfl⟩
  obtain ⟨vW, hvW⟩ : ∃ v : Int, (((w2 z 4 : Nat) : Int) : Int) = v := ⟨_, rfl⟩
  obtain ⟨vH, hvH⟩ : ∃ v : Int, (((w2 z 6 : Nat) : Int) : Int) = v := ⟨_, rfl⟩
  rw [hvP] at KPl ⊢
  rw [hvD] at KDe ⊢
  rw [hvW] at KW ⊢
  rw [hvH] at KH ⊢
  clear hvP hvD hvW hvH hz
  have hsn : z.size = n := hn
  clear hn
  go_enter Tryd.func22, Tryd.ntmps22
  go_wp2_with fail
  refine (KP.out _).mono ?_
  rintro e w1 ⟨rfl, g1⟩
  have R1 : w1.heap[W.heap.size]? = some (.cells #[.int .i64 0, .int .i64 0, .int .i64 0, .int .i64 0, .int .i64 0, .int .i64 0, .int .i64 0] 62 (0, 0)) := old1 g1 (by simp)
  have G1 := gb_trans (World.grownBy_alloc W (.cells #[.int .i64 0, .int .i64 0, .int .i64 0, .int .i64 0, .int .i64 0, .int .i64 0, .int .i64 0] 62) none) g1
  have hlt := blk_lt R1
  have HR1 := Lib.hid R1
  have HG1 := Lib.hid G1
  have P1 : (w1.alloc (.cells #[.int .i64 6, .int .i64 8, .int .i64 10] 104)).heap[w1.heap.size]? = some (.cells #[.int .i64 6, .int .i64 8, .int .i64 10] 104 (0, 0)) := blk_at
  clear R1 G1 g1
  go_upto_region 2 with fail
  have HP1 := Lib.hid P1
  have HR2 := Lib.hid (blk_al HR1.out (.cells #[.int .i64 6, .int .i64 8, .int .i64 10] 104))
  have HG2 := Lib.hid (gb_trans HG1.out (World.grownBy_alloc w1 (.cells #[.int .i64 6, .int .i64 8, .int .i64 10] 104) none))
  have hs2 : (w1.alloc (.cells #[.int .i64 6, .int .i64 8, .int .i64 10] 104)).heap.size = w1.heap.size + 1 := size_alloc _ _
  obtain ⟨pb, hpb⟩ : ∃ pb, w1.heap.size = pb := ⟨_, rfl⟩
  rw [hpb] at hlt hs2 HP1 ⊢
  generalize w1.alloc (.cells #[.int .i64 6, .int .i64 8, .int .i64 10] 104) = w2 at HP1 HR2 HG2 hs2 ⊢
  clear P1 HR1 HG1 KP
  have p0 := blk_cell HP1.out 0
  have p1 := blk_cell HP1.out 1
  have p2 := blk_cell HP1.out 2
  simp only [List.getElem?_toArray, List.getElem?_cons_succ, List.getElem?_cons_zero] at p0 p1 p2
  go_region_held3 (fun w' => w'.cell? ⟨pb, 1, none⟩ = some (.int .i64 8) ∧ w'.cell? ⟨pb, 2, none⟩ = some (.int .i64 10)) (go_keep)
    (first
      | (go_at_call 46; with_reducible refine (KPl.out _).mono ?_; rintro e w' ⟨rfl, rfl⟩)
      | (go_at_call 46; with_reducible refine (KDe.out _).mono ?_; rintro e w' ⟨rfl, rfl⟩))
  all_goals
    have I : NI W pb (pb + 1) #[.int .i64 6, .int .i64 8, .int .i64 10] #[.int .i64 n, .int .i64 0, .int .i64 0, .int .i64 vP, .int .i64 vD, .int .i64 0, .int .i64 0] ((w2.alloc (.cells #[.int .i64 n, .int .i64 0, .int .i64 0, .int .i64 vP, .int .i64 vD, .int .i64 0, .int .i64 0] 62)).drew) := ⟨blk_al HR2.out _, blk_al HP1.out _, by rw [← hs2]; exact blk_at (w := w2), gb_trans (gb_trans HG2.out (World.grownBy_alloc _ _ none)) (gb_drew _ _)⟩
    generalize ((w2.alloc (.cells #[.int .i64 n, .int .i64 0, .int .i64 0, .int .i64 vP, .int .i64 vD, .int .i64 0, .int .i64 0] 62)).drew) = w3 at I ⊢
    have hlb : W.heap.size < pb := hlt
    clear p0 p1 p2 HP1 HR2 HG2 KPl KDe
    have m0 : ¬ W.heap.size = pb := by omega
    have m1 : ¬ W.heap.size = pb + 1 := by omega
    have m2 : ¬ pb = W.heap.size := by omega
    have m3 : ¬ pb + 1 = W.heap.size := by omega
    have m4 : ¬ pb = pb + 1 := by omega
    have m5 : ¬ pb + 1 = pb := by omega
    have HI := Lib.hid I
    have c0 := blk_cell I.n 0
    have f0 := blk_free I.n 0
    have c1 := blk_cell I.n 1
    have f1 := blk_free I.n 1
    have c2 := blk_cell I.n 2
    have f2 := blk_free I.n 2
    have c3 := blk_cell I.n 3
    have f3 := blk_free I.n 3
    have c4 := blk_cell I.n 4
    have f4 := blk_free I.n 4
    have c5 := blk_cell I.n 5
    have f5 := blk_free I.n 5
    have c6 := blk_cell I.n 6
    have f6 := blk_free I.n 6
    have r0 := blk_cell I.r 0
    have g0 := blk_free I.r 0
    have r1 := blk_cell I.r 1
    have g1 := blk_free I.r 1
    have r2 := blk_cell I.r 2
    have g2 := blk_free I.r 2
    have r3 := blk_cell I.r 3
    have g3 := blk_free I.r 3
    have r4 := blk_cell I.r 4
    have g4 := blk_free I.r 4
    have r5 := blk_cell I.r 5
    have g5 := blk_free I.r 5
    have r6 := blk_cell I.r 6
    have g6 := blk_free I.r 6
    have p0 := blk_cell I.p 0
    have l0 := blk_lt I.r
    have l1 := blk_lt I.p
    have l2 := blk_lt I.n
    simp only [List.getElem?_toArray, List.getElem?_cons_succ, List.getElem?_cons_zero] at p0 c0 r0 c1 r1 c2 r2 c3 r3 c4 r4 c5 r5 c6 r6
    clear I
    go_wp2_with fail
    refine (KW.out _).mono ?_
    rintro e w' ⟨rfl, rfl⟩
    go_upto_region 5 with fail
    refine abs_w (R := NI W pb (pb + 1) #[.int .i64 6, .int .i64 8, .int .i64 10] #[.int .i64 n, .int .i64 vW, .int .i64 0, .int .i64 vP, .int .i64 vD, .int .i64 0, .int .i64 0]) ?_ (fun u0 J0 => ?_)
    · exact NI.set HI.out hlb (by omega) 1 _
    clear p0 l0 l1 l2 c0 f0 r0 g0 c1 f1 r1 g1 c2 f2 r2 g2 c3 f3 r3 g3 c4 f4 r4 g4 c5 f5 r5 g5 c6 f6 r6 g6
    clear HI
    have HJ0 := Lib.hid J0
    have c0 := blk_cell J0.n 0
    have f0 := blk_free J0.n 0
    have c1 := blk_cell J0.n 1
    have f1 := blk_free J0.n 1
    have c2 := blk_cell J0.n 2
    have f2 := blk_free J0.n 2
    have c3 := blk_cell J0.n 3
    have f3 := blk_free J0.n 3
    have c4 := blk_cell J0.n 4
    have f4 := blk_free J0.n 4
    have c5 := blk_cell J0.n 5
    have f5 := blk_free J0.n 5
    have c6 := blk_cell J0.n 6
    have f6 := blk_free J0.n 6
    have r0 := blk_cell J0.r 0
    have g0 := blk_free J0.r 0
    have r1 := blk_cell J0.r 1
    have g1 := blk_free J0.r 1
    have r2 := blk_cell J0.r 2
    have g2 := blk_free J0.r 2
    have r3 := blk_cell J0.r 3
    have g3 := blk_free J0.r 3
    have r4 := blk_cell J0.r 4
    have g4 := blk_free J0.r 4
    have r5 := blk_cell J0.r 5
    have g5 := blk_free J0.r 5
    have r6 := blk_cell J0.r 6
    have g6 := blk_free J0.r 6
    have p0 := blk_cell J0.p 0
    have l0 := blk_lt J0.r
    have l1 := blk_lt J0.p
    have l2 := blk_lt J0.n
    simp only [List.getElem?_toArray, List.getElem?_cons_succ, List.getElem?_cons_zero] at p0 c0 r0 c1 r1 c2 r2 c3 r3 c4 r4 c5 r5 c6 r6
    clear J0
    go_wp2_with fail
    refine (KH.out _).mono ?_
    rintro e w' ⟨rfl, rfl⟩
    go_upto_region 6 with fail
    refine abs_w (R := NI W pb (pb + 1) #[.int .i64 6, .int .i64 8, .int .i64 10] #[.int .i64 n, .int .i64 vW, .int .i64 vH, .int .i64 vP, .int .i64 vD, .int .i64 0, .int .i64 0]) ?_ (fun u1 J1 => ?_)
    · exact NI.set HJ0.out hlb (by omega) 2 _
    clear p0 l0 l1 l2 c0 f0 r0 g0 c1 f1 r1 g1 c2 f2 r2 g2 c3 f3 r3 g3 c4 f4 r4 g4 c5 f5 r5 g5 c6 f6 r6 g6
    clear HJ0
    have HJ1 := Lib.hid J1
    have c0 := blk_cell J1.n 0
    have f0 := blk_free J1.n 0
    have c1 := blk_cell J1.n 1
    have f1 := blk_free J1.n 1
    have c2 := blk_cell J1.n 2
    have f2 := blk_free J1.n 2
    have c3 := blk_cell J1.n 3
    have f3 := blk_free J1.n 3
    have c4 := blk_cell J1.n 4
    have f4 := blk_free J1.n 4
    have c5 := blk_cell J1.n 5
    have f5 := blk_free J1.n 5
    have c6 := blk_cell J1.n 6
    have f6 := blk_free J1.n 6
    have r0 := blk_cell J1.r 0
    have g0 := blk_free J1.r 0
    have r1 := blk_cell J1.r 1
    have g1 := blk_free J1.r 1
    have r2 := blk_cell J1.r 2
    have g2 := blk_free J1.r 2
    have r3 := blk_cell J1.r 3
    have g3 := blk_free J1.r 3
    have r4 := blk_cell J1.r 4
    have g4 := blk_free J1.r 4
    have r5 := blk_cell J1.r 5
    have g5 := blk_free J1.r 5
    have r6 := blk_cell J1.r 6
    have g6 := blk_free J1.r 6
    have p0 := blk_cell J1.p 0
    have l0 := blk_lt J1.r
    have l1 := blk_lt J1.p
    have l2 := blk_lt J1.n
    simp only [List.getElem?_toArray, List.getElem?_cons_succ, List.getElem?_cons_zero] at p0 c0 r0 c1 r1 c2 r2 c3 r3 c4 r4 c5 r5 c6 r6
    clear J1
    go_wp2
    refine bodyPost_ret (v := .agg #[.int .i64 n, .int .i64 vW, .int .i64 vH, .int .i64 vP, .int .i64 vD, .int .i64 0, .int .i64 0]) (by simp only [results, Tryd.results22]; go_simp) rfl ⟨rfl, ?_⟩
    exact gb_own (gb_own (gb_own (gb_own (gb_own (gb_own (gb_own (HJ1.out.gb) (Nat.le_refl _) (gb_set _ _ _ _)) (Nat.le_refl _) (gb_set _ _ _ _)) (Nat.le_refl _) (gb_set _ _ _ _)) (Nat.le_refl _) (gb_set _ _ _ _)) (Nat.le_refl _) (gb_set _ _ _ _)) (Nat.le_refl _) (gb_set _ _ _ _)) (Nat.le_refl _) (gb_set _ _ _ _)

set_option maxRecDepth 100000 in
set_option maxHeartbeats 4000000 in
theorem numbers_long (z : ByteArray) (h40 : 40 ≤ z.size) (hm : z.size ≤ 200) (W : World) :
    Calls Tryd.prog 22 #[.string z] W fun e w' => e = .returned (.agg (nV z)) ∧ W.grownBy w' none := by
  have KP := fun u => places_calls (z.size : Nat) u
  rw [show pcA (z.size : Nat) = #[.int .i64 8, .int .i64 12, .int .i64 14] from by unfold pcA; rw [if_neg (by omega)]] at KP
  have KP := Lib.hid KP
  obtain ⟨n, hn⟩ : ∃ n : Nat, z.size = n := ⟨_, rfl⟩
  have KPl := Lib.hid (show ∀ u, Calls Tryd.prog 46 #[.string z, .int .i64 12, .int .i64 2] u fun e w' => e = .returned (.int .i64 ((w2 z 12 : Nat))) ∧ u = w' from fun u => n16_calls z 12 u (by omega) (by omega))
  have KDe := Lib.hid (show ∀ u, Calls Tryd.prog 46 #[.string z, .int .i64 14, .int .i64 2] u fun e w' => e = .returned (.int .i64 ((w2 z 14 : Nat))) ∧ u = w' from fun u => n16_calls z 14 u (by omega) (by omega))
  have KW := Lib.hid (show ∀ u, Calls Tryd.prog 47 #[.string z, .int .i64 4, .int .i64 4] u fun e w' => e = .returned (.int .i64 (sgn (w4 z 4))) ∧ u = w' from fun u => nS32_calls z 4 u (by omega) (by omega))
  have KH := Lib.hid (show ∀ u, Calls Tryd.prog 47 #[.string z, .int .i64 8, .int .i64 4] u fun e w' => e = .returned (.int .i64 (sgn (w4 z 8))) ∧ u = w' from fun u => nS32_calls z 8 u (by omega) (by omega))
  have KM := Lib.hid (show ∀ u, Calls Tryd.prog 44 #[.string z, .int .i64 16, .int .i64 4] u fun e w' => e = .returned (.int .i64 ((w4 z 16 : Nat))) ∧ u = w' from fun u => n32_calls z 16 u (by omega) (by omega))
  have KC := Lib.hid (show ∀ u, Calls Tryd.prog 44 #[.string z, .int .i64 32, .int .i64 4] u fun e w' => e = .returned (.int .i64 ((w4 z 32 : Nat))) ∧ u = w' from fun u => n32_calls z 32 u (by omega) (by omega))
  rw [show nV z = #[.int .i64 (z.size : Nat), .int .i64 (sgn (w4 z 4)), .int .i64 (sgn (w4 z 8)), .int .i64 (w2 z 12 : Nat), .int .i64 (w2 z 14 : Nat), .int .i64 (w4 z 16 : Nat), .int .i64 (w4 z 32 : Nat)] from by unfold nV nW nH nP nD nM nC; rw [if_neg (by omega), if_neg (by omega), if_neg (by omega), if_neg (by omega), if_neg (by omega), if_neg (by omega)]]
  have hn12 : (((n : Nat) : Int) == 12) = false := by rw [beq_eq_false_iff_ne]; omega
  have hsz : ((z.size : Nat) : Int) = (n : Int) := by omega
  rw [hsz] at KP ⊢
  obtain ⟨vP, hvP⟩ : ∃ v : Int, ((w2 z 12 : Nat) : Int) = v := ⟨_, rfl⟩
  obtain ⟨vD, hvD⟩ : ∃ v : Int, ((w2 z 14 : Nat) : Int) = v := ⟨_, rfl⟩
  obtain ⟨vW, hvW⟩ : ∃ v : Int, (sgn (w4 z 4) : Int) = v := ⟨_, rfl⟩
  obtain ⟨vH, hvH⟩ : ∃ v : Int, (sgn (w4 z 8) : Int) = v := ⟨_, rfl⟩
  rw [hvP] at KPl ⊢
  rw [hvD] at KDe ⊢
  rw [hvW] at KW ⊢
  rw [hvH] at KH ⊢
  obtain ⟨vM, hvM⟩ : ∃ v : Int, ((w4 z 16 : Nat) : Int) = v := ⟨_, rfl⟩
  obtain ⟨vC, hvC⟩ : ∃ v : Int, ((w4 z 32 : Nat) : Int) = v := ⟨_, rfl⟩
  rw [hvM] at KM ⊢
  rw [hvC] at KC ⊢
  clear hvM hvC
  clear hvP hvD hvW hvH h40 hm
  have hsn : z.size = n := hn
  clear hn
  go_enter Tryd.func22, Tryd.ntmps22
  go_wp2_with fail
  refine (KP.out _).mono ?_
  rintro e w1 ⟨rfl, g1⟩
  have R1 : w1.heap[W.heap.size]? = some (.cells #[.int .i64 0, .int .i64 0, .int .i64 0, .int .i64 0, .int .i64 0, .int .i64 0, .int .i64 0] 62 (0, 0)) := old1 g1 (by simp)
  have G1 := gb_trans (World.grownBy_alloc W (.cells #[.int .i64 0, .int .i64 0, .int .i64 0, .int .i64 0, .int .i64 0, .int .i64 0, .int .i64 0] 62) none) g1
  have hlt := blk_lt R1
  have HR1 := Lib.hid R1
  have HG1 := Lib.hid G1
  have P1 : (w1.alloc (.cells #[.int .i64 8, .int .i64 12, .int .i64 14] 104)).heap[w1.heap.size]? = some (.cells #[.int .i64 8, .int .i64 12, .int .i64 14] 104 (0, 0)) := blk_at
  clear R1 G1 g1
  go_upto_region 2 with fail
  have HP1 := Lib.hid P1
  have HR2 := Lib.hid (blk_al HR1.out (.cells #[.int .i64 8, .int .i64 12, .int .i64 14] 104))
  have HG2 := Lib.hid (gb_trans HG1.out (World.grownBy_alloc w1 (.cells #[.int .i64 8, .int .i64 12, .int .i64 14] 104) none))
  have hs2 : (w1.alloc (.cells #[.int .i64 8, .int .i64 12, .int .i64 14] 104)).heap.size = w1.heap.size + 1 := size_alloc _ _
  obtain ⟨pb, hpb⟩ : ∃ pb, w1.heap.size = pb := ⟨_, rfl⟩
  rw [hpb] at hlt hs2 HP1 ⊢
  generalize w1.alloc (.cells #[.int .i64 8, .int .i64 12, .int .i64 14] 104) = w2 at HP1 HR2 HG2 hs2 ⊢
  clear P1 HR1 HG1 KP
  have p0 := blk_cell HP1.out 0
  have p1 := blk_cell HP1.out 1
  have p2 := blk_cell HP1.out 2
  simp only [List.getElem?_toArray, List.getElem?_cons_succ, List.getElem?_cons_zero] at p0 p1 p2
  go_region_held3 (fun w' => w'.cell? ⟨pb, 1, none⟩ = some (.int .i64 12) ∧ w'.cell? ⟨pb, 2, none⟩ = some (.int .i64 14)) (go_keep)
    (first
      | (go_at_call 46; with_reducible refine (KPl.out _).mono ?_; rintro e w' ⟨rfl, rfl⟩)
      | (go_at_call 46; with_reducible refine (KDe.out _).mono ?_; rintro e w' ⟨rfl, rfl⟩))
  all_goals
    have I : NI W pb (pb + 1) #[.int .i64 8, .int .i64 12, .int .i64 14] #[.int .i64 n, .int .i64 0, .int .i64 0, .int .i64 vP, .int .i64 vD, .int .i64 0, .int .i64 0] ((w2.alloc (.cells #[.int .i64 n, .int .i64 0, .int .i64 0, .int .i64 vP, .int .i64 vD, .int .i64 0, .int .i64 0] 62)).drew) := ⟨blk_al HR2.out _, blk_al HP1.out _, by rw [← hs2]; exact blk_at (w := w2), gb_trans (gb_trans HG2.out (World.grownBy_alloc _ _ none)) (gb_drew _ _)⟩
    generalize ((w2.alloc (.cells #[.int .i64 n, .int .i64 0, .int .i64 0, .int .i64 vP, .int .i64 vD, .int .i64 0, .int .i64 0] 62)).drew) = w3 at I ⊢
    have hlb : W.heap.size < pb := hlt
    clear p0 p1 p2 HP1 HR2 HG2 KPl KDe
    have m0 : ¬ W.heap.size = pb := by omega
    have m1 : ¬ W.heap.size = pb + 1 := by omega
    have m2 : ¬ pb = W.heap.size := by omega
    have m3 : ¬ pb + 1 = W.heap.size := by omega
    have m4 : ¬ pb = pb + 1 := by omega
    have m5 : ¬ pb + 1 = pb := by omega
    have HI := Lib.hid I
    have c0 := blk_cell I.n 0
    have f0 := blk_free I.n 0
    have c1 := blk_cell I.n 1
    have f1 := blk_free I.n 1
    have c2 := blk_cell I.n 2
    have f2 := blk_free I.n 2
    have c3 := blk_cell I.n 3
    have f3 := blk_free I.n 3
    have c4 := blk_cell I.n 4
    have f4 := blk_free I.n 4
    have c5 := blk_cell I.n 5
    have f5 := blk_free I.n 5
    have c6 := blk_cell I.n 6
    have f6 := blk_free I.n 6
    have r0 := blk_cell I.r 0
    have g0 := blk_free I.r 0
    have r1 := blk_cell I.r 1
    have g1 := blk_free I.r 1
    have r2 := blk_cell I.r 2
    have g2 := blk_free I.r 2
    have r3 := blk_cell I.r 3
    have g3 := blk_free I.r 3
    have r4 := blk_cell I.r 4
    have g4 := blk_free I.r 4
    have r5 := blk_cell I.r 5
    have g5 := blk_free I.r 5
    have r6 := blk_cell I.r 6
    have g6 := blk_free I.r 6
    have p0 := blk_cell I.p 0
    have l0 := blk_lt I.r
    have l1 := blk_lt I.p
    have l2 := blk_lt I.n
    simp only [List.getElem?_toArray, List.getElem?_cons_succ, List.getElem?_cons_zero] at p0 c0 r0 c1 r1 c2 r2 c3 r3 c4 r4 c5 r5 c6 r6
    clear I
    go_wp2_with fail
    refine (KW.out _).mono ?_
    rintro e w' ⟨rfl, rfl⟩
    go_upto_region 8 with fail
    refine abs_w (R := NI W pb (pb + 1) #[.int .i64 8, .int .i64 12, .int .i64 14] #[.int .i64 n, .int .i64 vW, .int .i64 0, .int .i64 vP, .int .i64 vD, .int .i64 0, .int .i64 0]) ?_ (fun u0 J0 => ?_)
    · exact NI.set HI.out hlb (by omega) 1 _
    clear p0 l0 l1 l2 c0 f0 r0 g0 c1 f1 r1 g1 c2 f2 r2 g2 c3 f3 r3 g3 c4 f4 r4 g4 c5 f5 r5 g5 c6 f6 r6 g6
    clear HI
    have HJ0 := Lib.hid J0
    have c0 := blk_cell J0.n 0
    have f0 := blk_free J0.n 0
    have c1 := blk_cell J0.n 1
    have f1 := blk_free J0.n 1
    have c2 := blk_cell J0.n 2
    have f2 := blk_free J0.n 2
    have c3 := blk_cell J0.n 3
    have f3 := blk_free J0.n 3
    have c4 := blk_cell J0.n 4
    have f4 := blk_free J0.n 4
    have c5 := blk_cell J0.n 5
    have f5 := blk_free J0.n 5
    have c6 := blk_cell J0.n 6
    have f6 := blk_free J0.n 6
    have r0 := blk_cell J0.r 0
    have g0 := blk_free J0.r 0
    have r1 := blk_cell J0.r 1
    have g1 := blk_free J0.r 1
    have r2 := blk_cell J0.r 2
    have g2 := blk_free J0.r 2
    have r3 := blk_cell J0.r 3
    have g3 := blk_free J0.r 3
    have r4 := blk_cell J0.r 4
    have g4 := blk_free J0.r 4
    have r5 := blk_cell J0.r 5
    have g5 := blk_free J0.r 5
    have r6 := blk_cell J0.r 6
    have g6 := blk_free J0.r 6
    have p0 := blk_cell J0.p 0
    have l0 := blk_lt J0.r
    have l1 := blk_lt J0.p
    have l2 := blk_lt J0.n
    simp only [List.getElem?_toArray, List.getElem?_cons_succ, List.getElem?_cons_zero] at p0 c0 r0 c1 r1 c2 r2 c3 r3 c4 r4 c5 r5 c6 r6
    clear J0
    go_wp2_with fail
    refine (KH.out _).mono ?_
    rintro e w' ⟨rfl, rfl⟩
    go_upto_region 9 with fail
    refine abs_w (R := NI W pb (pb + 1) #[.int .i64 8, .int .i64 12, .int .i64 14] #[.int .i64 n, .int .i64 vW, .int .i64 vH, .int .i64 vP, .int .i64 vD, .int .i64 0, .int .i64 0]) ?_ (fun u1 J1 => ?_)
    · exact NI.set HJ0.out hlb (by omega) 2 _
    clear p0 l0 l1 l2 c0 f0 r0 g0 c1 f1 r1 g1 c2 f2 r2 g2 c3 f3 r3 g3 c4 f4 r4 g4 c5 f5 r5 g5 c6 f6 r6 g6
    clear HJ0
    have HJ1 := Lib.hid J1
    have c0 := blk_cell J1.n 0
    have f0 := blk_free J1.n 0
    have c1 := blk_cell J1.n 1
    have f1 := blk_free J1.n 1
    have c2 := blk_cell J1.n 2
    have f2 := blk_free J1.n 2
    have c3 := blk_cell J1.n 3
    have f3 := blk_free J1.n 3
    have c4 := blk_cell J1.n 4
    have f4 := blk_free J1.n 4
    have c5 := blk_cell J1.n 5
    have f5 := blk_free J1.n 5
    have c6 := blk_cell J1.n 6
    have f6 := blk_free J1.n 6
    have r0 := blk_cell J1.r 0
    have g0 := blk_free J1.r 0
    have r1 := blk_cell J1.r 1
    have g1 := blk_free J1.r 1
    have r2 := blk_cell J1.r 2
    have g2 := blk_free J1.r 2
    have r3 := blk_cell J1.r 3
    have g3 := blk_free J1.r 3
    have r4 := blk_cell J1.r 4
    have g4 := blk_free J1.r 4
    have r5 := blk_cell J1.r 5
    have g5 := blk_free J1.r 5
    have r6 := blk_cell J1.r 6
    have g6 := blk_free J1.r 6
    have p0 := blk_cell J1.p 0
    have l0 := blk_lt J1.r
    have l1 := blk_lt J1.p
    have l2 := blk_lt J1.n
    simp only [List.getElem?_toArray, List.getElem?_cons_succ, List.getElem?_cons_zero] at p0 c0 r0 c1 r1 c2 r2 c3 r3 c4 r4 c5 r5 c6 r6
    clear J1
    go_wp2_with fail
    refine (KM.out _).mono ?_
    rintro e w' ⟨rfl, rfl⟩
    go_upto_region 10 with fail
    refine abs_w (R := NI W pb (pb + 1) #[.int .i64 8, .int .i64 12, .int .i64 14] #[.int .i64 n, .int .i64 vW, .int .i64 vH, .int .i64 vP, .int .i64 vD, .int .i64 vM, .int .i64 0]) ?_ (fun u2 J2 => ?_)
    · exact NI.set HJ1.out hlb (by omega) 5 _
    clear p0 l0 l1 l2 c0 f0 r0 g0 c1 f1 r1 g1 c2 f2 r2 g2 c3 f3 r3 g3 c4 f4 r4 g4 c5 f5 r5 g5 c6 f6 r6 g6
    clear HJ1
    have HJ2 := Lib.hid J2
    have c0 := blk_cell J2.n 0
    have f0 := blk_free J2.n 0
    have c1 := blk_cell J2.n 1
    have f1 := blk_free J2.n 1
    have c2 := blk_cell J2.n 2
    have f2 := blk_free J2.n 2
    have c3 := blk_cell J2.n 3
    have f3 := blk_free J2.n 3
    have c4 := blk_cell J2.n 4
    have f4 := blk_free J2.n 4
    have c5 := blk_cell J2.n 5
    have f5 := blk_free J2.n 5
    have c6 := blk_cell J2.n 6
    have f6 := blk_free J2.n 6
    have r0 := blk_cell J2.r 0
    have g0 := blk_free J2.r 0
    have r1 := blk_cell J2.r 1
    have g1 := blk_free J2.r 1
    have r2 := blk_cell J2.r 2
    have g2 := blk_free J2.r 2
    have r3 := blk_cell J2.r 3
    have g3 := blk_free J2.r 3
    have r4 := blk_cell J2.r 4
    have g4 := blk_free J2.r 4
    have r5 := blk_cell J2.r 5
    have g5 := blk_free J2.r 5
    have r6 := blk_cell J2.r 6
    have g6 := blk_free J2.r 6
    have p0 := blk_cell J2.p 0
    have l0 := blk_lt J2.r
    have l1 := blk_lt J2.p
    have l2 := blk_lt J2.n
    simp only [List.getElem?_toArray, List.getElem?_cons_succ, List.getElem?_cons_zero] at p0 c0 r0 c1 r1 c2 r2 c3 r3 c4 r4 c5 r5 c6 r6
    clear J2
    go_wp2_with fail
    refine (KC.out _).mono ?_
    rintro e w' ⟨rfl, rfl⟩
    go_upto_region 11 with fail
    refine abs_w (R := NI W pb (pb + 1) #[.int .i64 8, .int .i64 12, .int .i64 14] #[.int .i64 n, .int .i64 vW, .int .i64 vH, .int .i64 vP, .int .i64 vD, .int .i64 vM, .int .i64 vC]) ?_ (fun u3 J3 => ?_)
    · exact NI.set HJ2.out hlb (by omega) 6 _
    clear p0 l0 l1 l2 c0 f0 r0 g0 c1 f1 r1 g1 c2 f2 r2 g2 c3 f3 r3 g3 c4 f4 r4 g4 c5 f5 r5 g5 c6 f6 r6 g6
    clear HJ2
    have HJ3 := Lib.hid J3
    have c0 := blk_cell J3.n 0
    have f0 := blk_free J3.n 0
    have c1 := blk_cell J3.n 1
    have f1 := blk_free J3.n 1
    have c2 := blk_cell J3.n 2
    have f2 := blk_free J3.n 2
    have c3 := blk_cell J3.n 3
    have f3 := blk_free J3.n 3
    have c4 := blk_cell J3.n 4
    have f4 := blk_free J3.n 4
    have c5 := blk_cell J3.n 5
    have f5 := blk_free J3.n 5
    have c6 := blk_cell J3.n 6
    have f6 := blk_free J3.n 6
    have r0 := blk_cell J3.r 0
    have g0 := blk_free J3.r 0
    have r1 := blk_cell J3.r 1
    have g1 := blk_free J3.r 1
    have r2 := blk_cell J3.r 2
    have g2 := blk_free J3.r 2
    have r3 := blk_cell J3.r 3
    have g3 := blk_free J3.r 3
    have r4 := blk_cell J3.r 4
    have g4 := blk_free J3.r 4
    have r5 := blk_cell J3.r 5
    have g5 := blk_free J3.r 5
    have r6 := blk_cell J3.r 6
    have g6 := blk_free J3.r 6
    have p0 := blk_cell J3.p 0
    have l0 := blk_lt J3.r
    have l1 := blk_lt J3.p
    have l2 := blk_lt J3.n
    simp only [List.getElem?_toArray, List.getElem?_cons_succ, List.getElem?_cons_zero] at p0 c0 r0 c1 r1 c2 r2 c3 r3 c4 r4 c5 r5 c6 r6
    clear J3
    go_wp2
    refine bodyPost_ret (v := .agg #[.int .i64 n, .int .i64 vW, .int .i64 vH, .int .i64 vP, .int .i64 vD, .int .i64 vM, .int .i64 vC]) (by simp only [results, Tryd.results22]; go_simp) rfl ⟨rfl, ?_⟩
    exact gb_own (gb_own (gb_own (gb_own (gb_own (gb_own (gb_own (HJ3.out.gb) (Nat.le_refl _) (gb_set _ _ _ _)) (Nat.le_refl _) (gb_set _ _ _ _)) (Nat.le_refl _) (gb_set _ _ _ _)) (Nat.le_refl _) (gb_set _ _ _ _)) (Nat.le_refl _) (gb_set _ _ _ _)) (Nat.le_refl _) (gb_set _ _ _ _)) (Nat.le_refl _) (gb_set _ _ _ _)

end Go.Proofs.YtikjfmpdfeaooaaDoor.Dh
