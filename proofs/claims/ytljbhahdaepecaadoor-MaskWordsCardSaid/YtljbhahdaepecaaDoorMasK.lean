/- Layer 9: MaskFives, walked. -/
import Derived.Test.YtljbhahdaepecaaDoorMasJ
namespace Go.Proofs.YtljbhahdaepecaaDoor.Ma
open Go.ChangeShapes Go.WideShapes Go.ChangeAt Go.RowKit
open Go.Proofs.YtljbhahdaepecaaDoor.Le Go.Proofs.YtljbhahdaepecaaDoor.Sc
set_option linter.unusedVariables false

theorem find_blk (s n N : Nat) (W : World) (hN : N = 16 ∨ N = 32) (h1 : 1 ≤ n) (h : s + n ≤ N) (hlt : 0 < W.heap.size) (hT : Tab W) :
    Calls Tryd.prog 8 #[.int .i64 (blk s n : Nat), .int .i64 N] W fun e w' => e = .returned (.tuple #[.agg #[.int .i64 s, .int .i64 n], .int .i64 0]) ∧ W.grownBy w' none := by
  have hb : ((blk s n : Nat) : Int) < pw N := by
    have h2 : blk s n < 2 ^ N := by
      unfold blk
      have h3 : 1 ≤ 2 ^ n := Nat.pow_pos (by decide)
      have h4 : 1 ≤ 2 ^ s := Nat.pow_pos (by decide)
      have h5 : 2 ^ n * 2 ^ s ≤ 2 ^ N := by rw [← Nat.pow_add]; exact Nat.pow_le_pow_right (by decide) (by omega)
      have h6 : (2 ^ n - 1) * 2 ^ s = 2 ^ n * 2 ^ s - 2 ^ s := by rw [Nat.sub_mul, Nat.one_mul]
      rw [h6]
      exact Nat.lt_of_lt_of_le (Nat.sub_lt (Nat.mul_pos h3 h4) h4) h5
    unfold pw
    omega
  have F := find_calls (blk s n) N W hN hb hlt hT
  obtain ⟨a, b, c⟩ := run_blk s n h1 N
  have e : findV (blk s n) N = ((s : Int), (n : Int), 0) := by
    unfold findV
    rw [if_neg (by rw [a]; split <;> omega), b, c, if_neg (by omega), show min (N - s) n = n from by omega]
  rw [e] at F
  exact F

theorem orN_one (x : Nat → Nat) (h : ∀ k, k ≠ 0 → x k = 0) : orN x 4 = x 0 := by
  show ((((0 ||| x 0) ||| x 1) ||| x 2) ||| x 3) = x 0
  rw [h 1 (by decide), h 2 (by decide), h 3 (by decide)]
  simp

/-- The word of a set of one channel. -/
theorem word_one (s n : Nat) (c0 c1 c2 c3 : Int) (W : World) (h1 : 1 ≤ n) (h : s + n ≤ 32) (a0 : 0 ≤ c0 ∧ c0 ≤ 255) (a1 : 0 ≤ c1 ∧ c1 ≤ 255) (a2 : 0 ≤ c2 ∧ c2 ≤ 255) (a3 : 0 ≤ c3 ∧ c3 ≤ 255) :
    Calls Tryd.prog 18 #[.agg (set8 s n 0 0 0 0 0 0), .agg #[.int .u8 c0, .int .u8 c1, .int .u8 c2, .int .u8 c3]] W
      fun e w' => e = .returned (.int .i64 (fitV c0 s n)) ∧ W.grownBy w' none := by
  have hok : okP s n := .inr ⟨h1, h⟩
  obtain ⟨b0, b1⟩ := fitV_bd hok a0.1 a0.2
  obtain ⟨z, hz⟩ : ∃ z : Nat, fitV c0 s n = z := ⟨(fitV c0 s n).toNat, by omega⟩
  have H := sword_calls (fun k => if k = 0 then (s : Int) else 0) (fun k => if k = 0 then (n : Int) else 0) (fun k => if k = 0 then c0 else if k = 1 then c1 else if k = 2 then c2 else c3) (fun k => if k = 0 then z else 0) W
    (fun k hk => by
      show (if k = 0 then z else 0) < 4294967296
      split <;> omega)
    (fun k hk u => by
      have f0 := fun c h0 h1 => fit_calls 0 0 c u (.inl ⟨rfl, rfl⟩) h0 h1
      obtain rfl | rfl | rfl | rfl : k = 0 ∨ k = 1 ∨ k = 2 ∨ k = 3 := by omega
      · have := fit_calls s n c0 u hok a0.1 a0.2
        rw [hz] at this
        exact this
      · exact f0 c1 a1.1 a1.2
      · exact f0 c2 a2.1 a2.2
      · exact f0 c3 a3.1 a3.2)
  rw [orN_one _ (fun k hk => if_neg hk)] at H
  simp at H
  rw [hz]
  exact H

theorem of_fit (c : Int) (s n : Nat) (h1 : 1 ≤ n) (h : s + n ≤ 32) (c0 : 0 ≤ c) (c1 : c ≤ 255) : ofV (fitV c s n) s n = five c (pw n - 1) := by
  obtain ⟨b0, b1⟩ := pw_le (show n ≤ 32 by omega)
  have f0 := five_0 c0 (show 0 ≤ pw n - 1 by omega)
  have f1 := five_t c1 (show 0 ≤ pw n - 1 by omega)
  have hp : (2 : Int) ^ s ≠ 0 := Int.ne_of_gt (Int.pow_pos (by decide))
  unfold ofV fitV
  rw [if_neg (by omega), Int.mul_ediv_cancel _ hp]
  exact Int.emod_eq_of_lt f0 (by omega)

theorem sq_bd' {d : Int} (h1 : -65025 ≤ d) (h2 : d ≤ 65025) : 0 ≤ d * d ∧ d * d ≤ 4228250625 := by
  have h3 : 0 ≤ (65025 - d) * (65025 + d) := Int.mul_nonneg (by omega) (by omega)
  have e : (65025 - d) * (65025 + d) = 4228250625 - d * d := by rw [Int.sub_mul, Int.mul_add, Int.mul_add, Int.mul_comm d 65025]; omega
  refine ⟨?_, by omega⟩
  rcases Int.le_total 0 d with h | h
  · exact Int.mul_nonneg h h
  · have := Int.mul_nonneg (show 0 ≤ -d by omega) (show 0 ≤ -d by omega)
    rwa [Int.neg_mul_neg] at this

set_option maxRecDepth 100000 in
set_option maxHeartbeats 1000000 in
theorem fives_walk (c0 c1 c2 c3 b : Int) (W : World) (hlt : 0 < W.heap.size) (hT : Tab W) (a0 : 0 ≤ c0 ∧ c0 ≤ 255) (a1 : 0 ≤ c1 ∧ c1 ≤ 255) (a2 : 0 ≤ c2 ∧ c2 ≤ 255) (a3 : 0 ≤ c3 ∧ c3 ≤ 255) (hb : 0 ≤ b ∧ b ≤ 255) :
    Calls Tryd.prog 6 #[.agg #[.int .u8 c0, .int .u8 c1, .int .u8 c2, .int .u8 c3], .int .u8 b] W fun e w' => e = .returned (.bool true) ∧ W.grownBy w' none := by
  obtain ⟨n, hn⟩ : ∃ n : Nat, 1 + b % 8 = n := ⟨(1 + b % 8).toNat, by omega⟩
  have n1 : 1 ≤ n := by omega
  have n8 : n ≤ 8 := by omega
  have F := fun u h1 h2 => find_blk 3 n 16 u (.inl rfl) n1 (by omega) h1 h2
  have KW := fun u => word_one 3 n c0 c1 c2 c3 u n1 (by omega) a0 a1 a2 a3
  have KO := fun u => of_calls 3 n (fitV c0 3 n) u (.inr ⟨n1, by omega⟩)
  simp only [if_neg (show ¬ n = 0 by omega), of_fit c0 3 n n1 (by omega) a0.1 a0.2] at KO
  unfold set8 at KW
  have hbi := blk_int 3 n
  have hbl := blk_lt32 (show 3 + n ≤ 32 by omega)
  have ep := pw_int n
  obtain ⟨p1, p2⟩ := pw_le (show n ≤ 32 by omega)
  have p8 : pw n ≤ 256 := by
    obtain rfl | rfl | rfl | rfl | rfl | rfl | rfl | rfl : n = 1 ∨ n = 2 ∨ n = 3 ∨ n = 4 ∨ n = 5 ∨ n = 6 ∨ n = 7 ∨ n = 8 := by omega
    all_goals decide
  have pr0 := Int.mul_nonneg a0.1 (show 0 ≤ pw n - 1 by omega)
  have pr1 : c0 * (pw n - 1) ≤ 255 * 255 := Int.le_trans (Int.mul_le_mul_of_nonneg_right a0.2 (show 0 ≤ pw n - 1 by omega)) (by omega)
  have best := fun v => five_best c0 (pw n - 1) v
  have g0 := five_0 a0.1 (show 0 ≤ pw n - 1 by omega)
  have g1 := five_t a0.2 (show 0 ≤ pw n - 1 by omega)
  obtain ⟨g, hg⟩ : ∃ g, five c0 (pw n - 1) = g := ⟨_, rfl⟩
  obtain ⟨p, hp⟩ : ∃ p, pw n = p := ⟨_, rfl⟩
  obtain ⟨mk, hmk⟩ : ∃ m, blk 3 n = m := ⟨_, rfl⟩
  obtain ⟨z, hz⟩ : ∃ z, fitV c0 3 n = z := ⟨_, rfl⟩
  simp only [hg] at best KO g0 g1
  simp only [hp] at ep p1 p2 p8 best g1 hbi pr0 pr1
  obtain ⟨r, hr⟩ : ∃ r, c0 * (p - 1) = r := ⟨_, rfl⟩
  simp only [hr] at best pr0 pr1
  simp only [hmk] at F hbi hbl
  simp only [hz] at KW KO
  have hbi8 : (p - 1) * 8 = (mk : Int) := hbi
  have e3 : ((3 : Nat) : Int) = 3 := rfl
  simp only [e3] at F KW KO
  have F' := Lib.hid F
  have KW' := Lib.hid KW
  have KO' := Lib.hid KO
  have HB := Lib.hid best
  have HBI := Lib.hid hbi8
  have HEP := Lib.hid ep
  have HR := Lib.hid hr
  have HT := Lib.hid hT
  obtain ⟨a00, a01⟩ := a0
  obtain ⟨b00, b01⟩ := hb
  clear F KW KO best hbi hbi8 hg hp hr hmk hz a1 a2 a3 hT ep e3
  go_enter Tryd.func6, Tryd.ntmps6
  have ep := HEP.out
  have hbi := HBI.out
  go_wp2_with fail
  have hA : (W.alloc (.cells #[.int .u8 c0, .int .u8 c1, .int .u8 c2, .int .u8 c3] 42)).heap[W.heap.size]? = some (.cells #[.int .u8 c0, .int .u8 c1, .int .u8 c2, .int .u8 c3] 42 (0, 0)) := blk_at
  have hG := World.grownBy_alloc W (.cells #[.int .u8 c0, .int .u8 c1, .int .u8 c2, .int .u8 c3] 42) none
  generalize W.alloc (.cells #[.int .u8 c0, .int .u8 c1, .int .u8 c2, .int .u8 c3] 42) = w0 at hA hG ⊢
  have HA := Lib.hid hA
  have HG := Lib.hid hG
  have FH := Lib.hid (F'.out w0 (Nat.lt_of_lt_of_le hlt hG.size) (HT.out.grown hlt hG))
  clear hA hG
  refine FH.out.mono ?_
  rintro e w1 ⟨rfl, g1⟩
  have A1 := Lib.hid ((g1.block _ (blk_lt HA.out) (by simp)).trans HA.out)
  have G1 := Lib.hid (gb_trans HG.out g1)
  clear g1
  go_wp2_with fail
  have hA : (w1.alloc (.cells #[.int .i64 3, .int .i64 (n : Int)] 23)).heap[W.heap.size]? = some (.cells #[.int .u8 c0, .int .u8 c1, .int .u8 c2, .int .u8 c3] 42 (0, 0)) := blk_al A1.out _
  have hM : (w1.alloc (.cells #[.int .i64 3, .int .i64 (n : Int)] 23)).heap[w1.heap.size]? = some (.cells #[.int .i64 3, .int .i64 (n : Int)] 23 (0, 0)) := blk_at
  have hG := gb_trans G1.out (World.grownBy_alloc w1 (.cells #[.int .i64 3, .int .i64 (n : Int)] 23) none)
  generalize w1.alloc (.cells #[.int .i64 3, .int .i64 (n : Int)] 23) = w2 at hA hM hG ⊢
  have d0 : w2.cell? ⟨W.heap.size, 0, none⟩ = some (.int .u8 c0) := blk_cell hA 0
  have d1 : w2.cell? ⟨W.heap.size, 1, none⟩ = some (.int .u8 c1) := blk_cell hA 1
  have d2 : w2.cell? ⟨W.heap.size, 2, none⟩ = some (.int .u8 c2) := blk_cell hA 2
  have d3 : w2.cell? ⟨W.heap.size, 3, none⟩ = some (.int .u8 c3) := blk_cell hA 3
  have m0 : w2.cell? ⟨w1.heap.size, 0, none⟩ = some (.int .i64 3) := blk_cell hM 0
  have m1 : w2.cell? ⟨w1.heap.size, 1, none⟩ = some (.int .i64 n) := blk_cell hM 1
  have HG2 := Lib.hid hG
  clear hA hM hG
  go_region_held3 (fun w' => w'.cell? ⟨W.heap.size, 0, none⟩ = some (.int .u8 c0) ∧ w'.cell? ⟨W.heap.size, 1, none⟩ = some (.int .u8 c1) ∧ w'.cell? ⟨W.heap.size, 2, none⟩ = some (.int .u8 c2) ∧ w'.cell? ⟨W.heap.size, 3, none⟩ = some (.int .u8 c3) ∧ w'.cell? ⟨w1.heap.size, 0, none⟩ = some (.int .i64 3) ∧ w'.cell? ⟨w1.heap.size, 1, none⟩ = some (.int .i64 n)) (go_keep)
    (first | (go_at_call 18; with_reducible refine (KW'.out _).mono ?_; rintro e w3 ⟨rfl, g3o⟩; have g3 : w2.grownBy w3 none := (by first | exact gb_trans (gb_drew w2 _) g3o | exact g3o); clear g3o; have kk0 : w3.cell? ⟨W.heap.size, 0, none⟩ = some (.int .u8 c0) := g3.cell d0 (by simp); have kk1 : w3.cell? ⟨W.heap.size, 1, none⟩ = some (.int .u8 c1) := g3.cell d1 (by simp); have kk2 : w3.cell? ⟨W.heap.size, 2, none⟩ = some (.int .u8 c2) := g3.cell d2 (by simp); have kk3 : w3.cell? ⟨W.heap.size, 3, none⟩ = some (.int .u8 c3) := g3.cell d3 (by simp); have km0 : w3.cell? ⟨w1.heap.size, 0, none⟩ = some (.int .i64 3) := g3.cell m0 (by simp); have km1 : w3.cell? ⟨w1.heap.size, 1, none⟩ = some (.int .i64 n) := g3.cell m1 (by simp); have HG3 := Lib.hid (gb_trans HG2.out g3); clear g3) | (go_at_call 10; with_reducible refine (KO'.out _).mono ?_; rintro e w4 ⟨rfl, g4o⟩; have g4 : w3.grownBy w4 none := (by first | exact gb_trans (gb_drew w3 _) g4o | exact g4o); clear g4o; have kn0 : w4.cell? ⟨W.heap.size, 0, none⟩ = some (.int .u8 c0) := g4.cell kk0 (by simp); have kn1 : w4.cell? ⟨W.heap.size, 1, none⟩ = some (.int .u8 c1) := g4.cell kk1 (by simp); have kn2 : w4.cell? ⟨W.heap.size, 2, none⟩ = some (.int .u8 c2) := g4.cell kk2 (by simp); have kn3 : w4.cell? ⟨W.heap.size, 3, none⟩ = some (.int .u8 c3) := g4.cell kk3 (by simp); have kl0 : w4.cell? ⟨w1.heap.size, 0, none⟩ = some (.int .i64 3) := g4.cell km0 (by simp); have kl1 : w4.cell? ⟨w1.heap.size, 1, none⟩ = some (.int .i64 n) := g4.cell km1 (by simp); have HG4 := Lib.hid (gb_trans HG3.out g4); clear g4))
  all_goals
    go_wp2
    clear ep hbi
    go_loopg [10] 300 (fun q vv wr => ∃ (v : Nat), (v : Int) ≤ p ∧ q = 300 - v ∧ vv = .int .i64 v ∧ wr.cell? ⟨W.heap.size, 0, none⟩ = some (.int .u8 c0) ∧ W.grownBy wr none)
    case atStart => exact ⟨0, by omega, rfl, rfl, kn0, HG4.out⟩
    case round =>
      obtain ⟨v, hv, rfl, rfl, k0, G⟩ := hrel
      have HG5 := Lib.hid G
      clear G kn0 kn1 kn2 kn3 kl0 kl1 HG4 kk0 kk1 kk2 kk3 km0 km1 HG3
      by_cases hvp : (v : Int) ≤ p - 1
      · have hbest := HB.out v
        obtain ⟨A, hA⟩ : ∃ A, 255 * (v : Int) - r = A := ⟨_, rfl⟩
        obtain ⟨B, hB⟩ : ∃ B, 255 * g - r = B := ⟨_, rfl⟩
        rw [hA, hB] at hbest
        obtain ⟨s0, s1⟩ := sq_bd' (show -65025 ≤ A by omega) (show A ≤ 65025 by omega)
        obtain ⟨t0, t1⟩ := sq_bd' (show -65025 ≤ B by omega) (show B ≤ 65025 by omega)
        obtain ⟨sa, hsa⟩ : ∃ x, A * A = x := ⟨_, rfl⟩
        obtain ⟨sb, hsb⟩ : ∃ x, B * B = x := ⟨_, rfl⟩
        rw [hsa, hsb] at hbest
        rw [hsa] at s0 s1
        rw [hsb] at t0 t1
        have q1 : IntKind.i64.wrap (255 * (v : Int)) = 255 * (v : Int) := by rw [IntKind.wrap_i64]; omega
        have q2 : IntKind.i64.wrap r = r := by rw [IntKind.wrap_i64]; omega
        have q3 : IntKind.i64.wrap (255 * (v : Int) - r) = A := by rw [IntKind.wrap_i64]; omega
        have q4 : IntKind.i64.wrap (255 * g) = 255 * g := by rw [IntKind.wrap_i64]; omega
        have q5 : IntKind.i64.wrap (255 * g - r) = B := by rw [IntKind.wrap_i64]; omega
        have q6 : IntKind.i64.wrap c0 = c0 := by rw [IntKind.wrap_i64]; omega
        have hr := HR.out
        have HSA := Lib.hid hsa
        have HSB := Lib.hid hsb
        have hA' := Lib.hid hA
        have hB' := Lib.hid hB
        have HBE := Lib.hid hbest
        clear hA hB hsa hsb hbest
        go_wp2_with fail
        go_quiet (fail)
        clear q1 q2 q3 q4 q5 q6 hr
        have hsa := HSA.out
        have hsb := HSB.out
        rcases HBE.out with hlt' | ⟨heq, hle⟩
        · have h2 : (sa == sb) = false := by rw [beq_eq_false_iff_ne]; omega
          have h3 : sb ≤ sa := by omega
          go_wp2
          go_roundg (300 - (v + 1))
          case measure => omega
          case rel => exact ⟨v + 1, by omega, rfl, by go_num, by simpa using k0, gb_trans HG5.out (gb_drewN _ _ _)⟩
        · subst heq
          go_wp2
          go_roundg (300 - (v + 1))
          case measure => omega
          case rel => exact ⟨v + 1, by omega, rfl, by go_num, by simpa using k0, gb_trans HG5.out (gb_drewN _ _ _)⟩
      · have hvq : p - 1 < (v : Int) := by omega
        have AW := Lib.hid (awake_calls wr (Nat.lt_of_lt_of_le hlt HG5.out.size) (HT.out.grown hlt HG5.out))
        go_wp2_with fail
        refine AW.out.mono ?_
        rintro e w6 ⟨rfl, g6⟩
        go_wp2
        go_ret
        exact ⟨rfl, gb_trans HG5.out g6⟩

end Go.Proofs.YtljbhahdaepecaaDoor.Ma
