/- Layer 10: the code's entries of bytes, walked. -/
import Derived.Test.YtljbhahdaepecaaPalC
namespace Go.Proofs.Ytljbhahdaepecaa.Pa
open Go.ChangeShapes Go.WideShapes Go.ChangeAt Go.RowKit
open Go.Proofs.Ytljbhahdaepecaa.Sc Go.Proofs.Ytljbhahdaepecaa.Le
set_option linter.unusedVariables false

set_option maxRecDepth 100000 in
theorem five_calls (x y : Int) (W : World) (h : bits .and .i64 x 31 = y) (y0 : 0 ≤ y) (y1 : y ≤ 31) : Calls Try.prog 47 #[.int .i64 x] W fun e w' => e = .returned (.int .u8 (near y 31)) ∧ W = w' := by
  have K := fun u => bits_yes y 5 u (by decide) (by decide) (by unfold may; rw [show pw 5 - 1 = 31 from by decide]; simp; omega)
  rw [show pw 5 - 1 = 31 from by decide] at K
  obtain ⟨q, hq⟩ : ∃ q, near y 31 = q := ⟨_, rfl⟩
  simp only [hq] at K
  rw [hq]
  have e5 : ((5 : Nat) : Int) = 5 := rfl
  simp only [e5] at K
  have K' := Lib.hid K
  clear K hq e5
  go_enter Try.func47, Try.ntmps47
  go_wp2_with fail
  refine (K'.out _).mono ?_
  rintro e w' ⟨rfl, rfl⟩
  go_wp2
  go_ret
  exact ⟨rfl, rfl⟩

set_option maxRecDepth 100000 in
theorem opaque_calls (s : ByteArray) (c0 c1 c2 : Int) (W : World) (hs : 3 ≤ s.size) (hm : s.size ≤ 9223372036854775807) (h0 : ((s[0]'(by omega)).toNat : Int) = c0) (h1 : ((s[1]'(by omega)).toNat : Int) = c1) (h2 : ((s[2]'(by omega)).toNat : Int) = c2) :
    Calls Try.prog 37 #[.string s] W fun e w' => e = .returned (.agg #[.int .u8 c2, .int .u8 c1, .int .u8 c0, .int .u8 255]) ∧ W.grownBy w' none := by
  go_enter Try.func37, Try.ntmps37
  go_wp2_with fail
  have hR : (W.alloc (.cells #[.int .u8 0, .int .u8 0, .int .u8 0, .int .u8 0] 24)).heap[W.heap.size]? = some (.cells #[.int .u8 0, .int .u8 0, .int .u8 0, .int .u8 0] 24 (0, 0)) := blk_at
  have hG := World.grownBy_alloc W (.cells #[.int .u8 0, .int .u8 0, .int .u8 0, .int .u8 0] 24) none
  generalize W.alloc (.cells #[.int .u8 0, .int .u8 0, .int .u8 0, .int .u8 0] 24) = w1 at hR hG ⊢
  have q0 : w1.cell? ⟨W.heap.size, 0, none⟩ = some (.int .u8 0) := blk_cell hR 0
  have q1 : w1.cell? ⟨W.heap.size, 1, none⟩ = some (.int .u8 0) := blk_cell hR 1
  have q2 : w1.cell? ⟨W.heap.size, 2, none⟩ = some (.int .u8 0) := blk_cell hR 2
  have q3 : w1.cell? ⟨W.heap.size, 3, none⟩ = some (.int .u8 0) := blk_cell hR 3
  have f0 := blk_free hR 0
  have f1 := blk_free hR 1
  have f2 := blk_free hR 2
  have f3 := blk_free hR 3
  have HG := Lib.hid hG
  clear hR hG
  go_region
  go_wp2
  refine bodyPost_ret (v := .agg #[.int .u8 c2, .int .u8 c1, .int .u8 c0, .int .u8 255]) (by simp only [results, Try.results37]; go_simp) rfl ⟨rfl, ?_⟩
  exact gb_trans (gb_own (gb_own (gb_own (gb_own HG.out (Nat.le_refl _) (gb_set _ _ _ _)) (Nat.le_refl _) (gb_set _ _ _ _)) (Nat.le_refl _) (gb_set _ _ _ _)) (Nat.le_refl _) (gb_set _ _ _ _)) (gb_drew _ _)

set_option maxRecDepth 100000 in
theorem whole_calls (s : ByteArray) (c0 c1 c2 c3 : Int) (W : World) (hs : 4 ≤ s.size) (hm : s.size ≤ 9223372036854775807) (h0 : ((s[0]'(by omega)).toNat : Int) = c0) (h1 : ((s[1]'(by omega)).toNat : Int) = c1) (h2 : ((s[2]'(by omega)).toNat : Int) = c2) (h3 : ((s[3]'(by omega)).toNat : Int) = c3) :
    Calls Try.prog 38 #[.string s] W fun e w' => e = .returned (.agg #[.int .u8 c2, .int .u8 c1, .int .u8 c0, .int .u8 c3]) ∧ W.grownBy w' none := by
  go_enter Try.func38, Try.ntmps38
  go_wp2_with fail
  have hR : (W.alloc (.cells #[.int .u8 0, .int .u8 0, .int .u8 0, .int .u8 0] 24)).heap[W.heap.size]? = some (.cells #[.int .u8 0, .int .u8 0, .int .u8 0, .int .u8 0] 24 (0, 0)) := blk_at
  have hG := World.grownBy_alloc W (.cells #[.int .u8 0, .int .u8 0, .int .u8 0, .int .u8 0] 24) none
  generalize W.alloc (.cells #[.int .u8 0, .int .u8 0, .int .u8 0, .int .u8 0] 24) = w1 at hR hG ⊢
  have q0 : w1.cell? ⟨W.heap.size, 0, none⟩ = some (.int .u8 0) := blk_cell hR 0
  have q1 : w1.cell? ⟨W.heap.size, 1, none⟩ = some (.int .u8 0) := blk_cell hR 1
  have q2 : w1.cell? ⟨W.heap.size, 2, none⟩ = some (.int .u8 0) := blk_cell hR 2
  have q3 : w1.cell? ⟨W.heap.size, 3, none⟩ = some (.int .u8 0) := blk_cell hR 3
  have f0 := blk_free hR 0
  have f1 := blk_free hR 1
  have f2 := blk_free hR 2
  have f3 := blk_free hR 3
  have HG := Lib.hid hG
  clear hR hG
  go_region
  go_wp2
  refine bodyPost_ret (v := .agg #[.int .u8 c2, .int .u8 c1, .int .u8 c0, .int .u8 c3]) (by simp only [results, Try.results38]; go_simp) rfl ⟨rfl, ?_⟩
  exact gb_trans (gb_own (gb_own (gb_own (gb_own HG.out (Nat.le_refl _) (gb_set _ _ _ _)) (Nat.le_refl _) (gb_set _ _ _ _)) (Nat.le_refl _) (gb_set _ _ _ _)) (Nat.le_refl _) (gb_set _ _ _ _)) (gb_drew _ _)

theorem and_31 (x : Int) : bits .and .i64 x 31 = x % 32 := by
  have h : ((BitVec.ofInt 64 x) &&& (BitVec.ofInt 64 31)).toNat = (x % 32).toNat := by
    rw [BitVec.toNat_and, BitVec.toNat_ofInt, BitVec.toNat_ofInt]
    have e : ((31 : Int) % ((2 ^ 64 : Nat) : Int)).toNat = 2 ^ 5 - 1 := by decide
    rw [e, Nat.and_two_pow_sub_one_eq_mod]
    omega
  unfold bits
  show IntKind.i64.wrap (((BitVec.ofInt 64 x) &&& (BitVec.ofInt 64 31)).toNat : Int) = x % 32
  rw [h, IntKind.wrap_i64]
  omega
theorem or_high (a b : Nat) (ha : a < 256) (hb : b < 256) : bits .or .i64 (a : Int) ((b : Int) * 256) = (a : Int) + 256 * b := by
  have hn : a ||| (b * 256) = a + 256 * b := by
    have := Nat.shiftLeft_add_eq_or_of_lt (i := 8) (b := a) (by omega) b
    rw [Nat.or_comm, show b * 256 = b <<< 8 from by rw [Nat.shiftLeft_eq], ← this, Nat.shiftLeft_eq]
    omega
  have h1 : (BitVec.ofInt 64 (a : Int)).toNat = a := by
    rw [BitVec.ofInt_natCast, BitVec.toNat_ofNat]; exact Nat.mod_eq_of_lt (by omega)
  have h2 : (BitVec.ofInt 64 ((b * 256 : Nat) : Int)).toNat = b * 256 := by
    rw [BitVec.ofInt_natCast, BitVec.toNat_ofNat]; exact Nat.mod_eq_of_lt (by omega)
  have e : (b : Int) * 256 = ((b * 256 : Nat) : Int) := by omega
  rw [e]
  show IntKind.i64.wrap ((BitVec.ofInt 64 (a : Int) ||| BitVec.ofInt 64 ((b * 256 : Nat) : Int)).toNat : Int) = _
  rw [BitVec.toNat_or, h1, h2, hn, IntKind.wrap_i64]
  omega

set_option maxRecDepth 100000 in
theorem packed_calls (s : ByteArray) (a b : Nat) (W : World) (hs : 2 ≤ s.size) (hm : s.size ≤ 9223372036854775807) (h0 : (s[0]'(by omega)).toNat = a) (h1 : (s[1]'(by omega)).toNat = b) :
    Calls Try.prog 36 #[.string s] W fun e w' => e = .returned (.agg #[.int .u8 (near (((a : Int) + 256 * b) / 1024 % 32) 31), .int .u8 (near (((a : Int) + 256 * b) / 32 % 32) 31), .int .u8 (near (((a : Int) + 256 * b) % 32) 31), .int .u8 255]) ∧ W.grownBy w' none := by
  have ha : a < 256 := by rw [← h0]; exact UInt8.toNat_lt _
  have hb : b < 256 := by rw [← h1]; exact UInt8.toNat_lt _
  have hor := or_high a b ha hb
  obtain ⟨z, hz⟩ : ∃ z, (a : Int) + 256 * b = z := ⟨_, rfl⟩
  rw [hz] at hor ⊢
  have z0 : 0 ≤ z := by omega
  have z1 : z ≤ 65535 := by omega
  have KR := fun u => five_calls (z / 1024) (z / 1024 % 32) u (and_31 _) (by omega) (by omega)
  have KG := fun u => five_calls (z / 32) (z / 32 % 32) u (and_31 _) (by omega) (by omega)
  have KB := fun u => five_calls z (z % 32) u (and_31 _) (by omega) (by omega)
  obtain ⟨x, hx⟩ : ∃ x, near (z / 1024 % 32) 31 = x := ⟨_, rfl⟩
  obtain ⟨y, hy⟩ : ∃ x, near (z / 32 % 32) 31 = x := ⟨_, rfl⟩
  obtain ⟨v, hv⟩ : ∃ x, near (z % 32) 31 = x := ⟨_, rfl⟩
  simp only [hx] at KR
  simp only [hy] at KG
  simp only [hv] at KB
  rw [hx, hy, hv]
  have KR' := Lib.hid KR
  have KG' := Lib.hid KG
  have KB' := Lib.hid KB
  have HO := Lib.hid hor
  have H0 := Lib.hid h0
  have H1 := Lib.hid h1
  clear KR KG KB hx hy hv hz hor
  go_enter Try.func36, Try.ntmps36
  go_wp2_with fail
  have hR : (W.alloc (.cells #[.int .u8 0, .int .u8 0, .int .u8 0, .int .u8 0] 24)).heap[W.heap.size]? = some (.cells #[.int .u8 0, .int .u8 0, .int .u8 0, .int .u8 0] 24 (0, 0)) := blk_at
  have hG := World.grownBy_alloc W (.cells #[.int .u8 0, .int .u8 0, .int .u8 0, .int .u8 0] 24) none
  generalize W.alloc (.cells #[.int .u8 0, .int .u8 0, .int .u8 0, .int .u8 0] 24) = w1 at hR hG ⊢
  have q0 : w1.cell? ⟨W.heap.size, 0, none⟩ = some (.int .u8 0) := blk_cell hR 0
  have q1 : w1.cell? ⟨W.heap.size, 1, none⟩ = some (.int .u8 0) := blk_cell hR 1
  have q2 : w1.cell? ⟨W.heap.size, 2, none⟩ = some (.int .u8 0) := blk_cell hR 2
  have q3 : w1.cell? ⟨W.heap.size, 3, none⟩ = some (.int .u8 0) := blk_cell hR 3
  have f0 := blk_free hR 0
  have f1 := blk_free hR 1
  have f2 := blk_free hR 2
  have f3 := blk_free hR 3
  have HG := Lib.hid hG
  have s1 : IntKind.i64.wrap ((b : Int) * 256) = (b : Int) * 256 := by rw [IntKind.wrap_i64]; omega
  have hor := HO.out
  clear hR hG
  go_quiet (fail)
  clear s1 hor h0 h1
  go_wp2_with fail
  refine (KR'.out _).mono ?_
  rintro e w' ⟨rfl, rfl⟩
  go_wp2_with fail
  refine (KG'.out _).mono ?_
  rintro e w' ⟨rfl, rfl⟩
  go_wp2_with fail
  refine (KB'.out _).mono ?_
  rintro e w' ⟨rfl, rfl⟩
  go_wp2
  refine bodyPost_ret (v := .agg #[.int .u8 x, .int .u8 y, .int .u8 v, .int .u8 255]) (by simp [results, Try.results36, go_sem, q0, q1, q2, q3]) rfl ⟨rfl, ?_⟩
  exact gb_own (gb_own (gb_own (gb_own (gb_trans HG.out (gb_drewN _ _ _)) (Nat.le_refl _) (gb_set _ _ _ _)) (Nat.le_refl _) (gb_set _ _ _ _)) (Nat.le_refl _) (gb_set _ _ _ _)) (Nat.le_refl _) (gb_set _ _ _ _)

set_option maxRecDepth 100000 in
theorem entry_no (s : ByteArray) (kd : Int) (W : World) (hm : s.size ≤ 9223372036854775807) (h : kd < 2 ∨ 5 < kd) :
    Calls Try.prog 8 #[.string s, .int .i64 kd] W fun e w' => e = .returned (.tuple #[.agg #[.int .u8 0, .int .u8 0, .int .u8 0, .int .u8 0], .bool false]) ∧ W.grownBy w' none := by
  have K' := Lib.hid (fun u => find_no kd u h)
  clear h
  go_enter Try.func8, Try.ntmps8
  go_wp2_with fail
  have hR : (W.alloc (.cells #[.int .u8 0, .int .u8 0, .int .u8 0, .int .u8 0] 24)).heap[W.heap.size]? = some (.cells #[.int .u8 0, .int .u8 0, .int .u8 0, .int .u8 0] 24 (0, 0)) := blk_at
  have HR := Lib.hid hR
  clear hR
  refine (K'.out _).mono ?_
  rintro e w1 ⟨rfl, g1⟩
  have R1 := (g1.block _ (blk_lt HR.out) (by simp)).trans HR.out
  have hl1 := blk_lt R1
  have q0 : w1.cell? ⟨W.heap.size, 0, none⟩ = some (.int .u8 0) := blk_cell R1 0
  have q1 : w1.cell? ⟨W.heap.size, 1, none⟩ = some (.int .u8 0) := blk_cell R1 1
  have q2 : w1.cell? ⟨W.heap.size, 2, none⟩ = some (.int .u8 0) := blk_cell R1 2
  have q3 : w1.cell? ⟨W.heap.size, 3, none⟩ = some (.int .u8 0) := blk_cell R1 3
  have f0 := blk_free R1 0
  have f1 := blk_free R1 1
  have f2 := blk_free R1 2
  have f3 := blk_free R1 3
  have G := Lib.hid (gb_trans (World.grownBy_alloc _ _ _) g1)
  clear g1 R1
  go_wp2
  refine bodyPost_ret (v := .tuple #[.agg #[.int .u8 0, .int .u8 0, .int .u8 0, .int .u8 0], .bool false]) (by rw [results_cell_tmp (fn := Try.f8) rfl]; go_simp) rfl ⟨rfl, ?_⟩
  exact gb_trans (gb_own (gb_own (gb_own (gb_own G.out (Nat.le_refl _) (gb_set _ _ _ _)) (Nat.le_refl _) (gb_set _ _ _ _)) (Nat.le_refl _) (gb_set _ _ _ _)) (Nat.le_refl _) (gb_set _ _ _ _)) (World.grownBy_alloc _ _ _)

set_option maxRecDepth 100000 in
theorem entry_short (s : ByteArray) (t : Nat) (kd : Int) (W : World) (hm : s.size ≤ 9223372036854775807) (ht : t < 4) (hkd : kd = t + 2) (hs : (s.size : Int) < szL t) :
    Calls Try.prog 8 #[.string s, .int .i64 kd] W fun e w' => e = .returned (.tuple #[.agg #[.int .u8 0, .int .u8 0, .int .u8 0, .int .u8 0], .bool false]) ∧ W.grownBy w' none := by
  have K := fun u => find_yes t kd u ht hkd
  obtain ⟨y, hy⟩ : ∃ x, szL t = x := ⟨_, rfl⟩
  obtain ⟨m, hmm⟩ : ∃ x, fmL t = x := ⟨_, rfl⟩
  simp only [hy, hmm] at K
  rw [hy] at hs
  have K' := Lib.hid K
  clear K hkd hy hmm
  go_enter Try.func8, Try.ntmps8
  go_wp2_with fail
  have hR : (W.alloc (.cells #[.int .u8 0, .int .u8 0, .int .u8 0, .int .u8 0] 24)).heap[W.heap.size]? = some (.cells #[.int .u8 0, .int .u8 0, .int .u8 0, .int .u8 0] 24 (0, 0)) := blk_at
  have HR := Lib.hid hR
  clear hR
  refine (K'.out _).mono ?_
  rintro e w1 ⟨rfl, g1⟩
  have R1 := (g1.block _ (blk_lt HR.out) (by simp)).trans HR.out
  have hl1 := blk_lt R1
  have q0 : w1.cell? ⟨W.heap.size, 0, none⟩ = some (.int .u8 0) := blk_cell R1 0
  have q1 : w1.cell? ⟨W.heap.size, 1, none⟩ = some (.int .u8 0) := blk_cell R1 1
  have q2 : w1.cell? ⟨W.heap.size, 2, none⟩ = some (.int .u8 0) := blk_cell R1 2
  have q3 : w1.cell? ⟨W.heap.size, 3, none⟩ = some (.int .u8 0) := blk_cell R1 3
  have f0 := blk_free R1 0
  have f1 := blk_free R1 1
  have f2 := blk_free R1 2
  have f3 := blk_free R1 3
  have G := Lib.hid (gb_trans (World.grownBy_alloc _ _ _) g1)
  clear g1 R1
  go_wp2
  refine bodyPost_ret (v := .tuple #[.agg #[.int .u8 0, .int .u8 0, .int .u8 0, .int .u8 0], .bool false]) (by rw [results_cell_tmp (fn := Try.f8) rfl]; go_simp) rfl ⟨rfl, ?_⟩
  exact gb_trans (gb_own (gb_own (gb_own (gb_own G.out (Nat.le_refl _) (gb_set _ _ _ _)) (Nat.le_refl _) (gb_set _ _ _ _)) (Nat.le_refl _) (gb_set _ _ _ _)) (Nat.le_refl _) (gb_set _ _ _ _)) (World.grownBy_alloc _ _ _)

set_option maxRecDepth 100000 in
theorem entry_y0 (s : ByteArray) (c0 c1 c2 c3 : Int) (W : World) (hm : s.size ≤ 9223372036854775807) (hs : 2 ≤ (s.size : Int))
    (KE : ∀ u, Calls Try.prog 36 #[.string s] u fun e w' => e = .returned (.agg #[.int .u8 c0, .int .u8 c1, .int .u8 c2, .int .u8 c3]) ∧ u.grownBy w' none) :
    Calls Try.prog 8 #[.string s, .int .i64 2] W fun e w' => e = .returned (.tuple #[.agg #[.int .u8 c0, .int .u8 c1, .int .u8 c2, .int .u8 c3], .bool true]) ∧ W.grownBy w' none := by
  have K : ∀ u, Calls Try.prog 24 #[.int .i64 2] u fun e w' => e = .returned (.tuple #[.agg #[.int .i64 2, .int .i64 2, .func (.func 36) #[] #[]], .bool true]) ∧ u.grownBy w' none := fun u => find_yes 0 2 u (by decide) rfl
  have K' := Lib.hid K
  have KE' := Lib.hid KE
  clear K KE
  go_enter Try.func8, Try.ntmps8
  go_wp2_with fail
  have hR : (W.alloc (.cells #[.int .u8 0, .int .u8 0, .int .u8 0, .int .u8 0] 24)).heap[W.heap.size]? = some (.cells #[.int .u8 0, .int .u8 0, .int .u8 0, .int .u8 0] 24 (0, 0)) := blk_at
  have HR := Lib.hid hR
  clear hR
  refine (K'.out _).mono ?_
  rintro e w1 ⟨rfl, g1⟩
  have R1 := (g1.block _ (blk_lt HR.out) (by simp)).trans HR.out
  have HR1 := Lib.hid R1
  have G := Lib.hid (gb_trans (World.grownBy_alloc _ _ _) g1)
  clear g1 R1
  go_wp2_with fail
  refine (KE'.out _).mono ?_
  rintro e w2 ⟨rfl, g2⟩
  have R2 := old0 (gb_trans (World.grownBy_alloc w1 _ none) g2) HR1.out (blk_lt HR1.out) (by simp)
  have hl2 := blk_lt R2
  have q0 : w2.cell? ⟨W.heap.size, 0, none⟩ = some (.int .u8 0) := blk_cell R2 0
  have q1 : w2.cell? ⟨W.heap.size, 1, none⟩ = some (.int .u8 0) := blk_cell R2 1
  have q2 : w2.cell? ⟨W.heap.size, 2, none⟩ = some (.int .u8 0) := blk_cell R2 2
  have q3 : w2.cell? ⟨W.heap.size, 3, none⟩ = some (.int .u8 0) := blk_cell R2 3
  have f0 := blk_free R2 0
  have f1 := blk_free R2 1
  have f2 := blk_free R2 2
  have f3 := blk_free R2 3
  have G2 := Lib.hid (gb_trans (gb_trans G.out (World.grownBy_alloc _ _ _)) g2)
  clear g2 R2
  go_wp2
  refine bodyPost_ret (v := .tuple #[.agg #[.int .u8 c0, .int .u8 c1, .int .u8 c2, .int .u8 c3], .bool true]) (by rw [results_cell_tmp (fn := Try.f8) rfl]; go_simp) rfl ⟨rfl, ?_⟩
  exact gb_own (gb_own (gb_own (gb_own G2.out (Nat.le_refl _) (gb_set _ _ _ _)) (Nat.le_refl _) (gb_set _ _ _ _)) (Nat.le_refl _) (gb_set _ _ _ _)) (Nat.le_refl _) (gb_set _ _ _ _)

set_option maxRecDepth 100000 in
theorem entry_y1 (s : ByteArray) (c0 c1 c2 c3 : Int) (W : World) (hm : s.size ≤ 9223372036854775807) (hs : 3 ≤ (s.size : Int))
    (KE : ∀ u, Calls Try.prog 37 #[.string s] u fun e w' => e = .returned (.agg #[.int .u8 c0, .int .u8 c1, .int .u8 c2, .int .u8 c3]) ∧ u.grownBy w' none) :
    Calls Try.prog 8 #[.string s, .int .i64 3] W fun e w' => e = .returned (.tuple #[.agg #[.int .u8 c0, .int .u8 c1, .int .u8 c2, .int .u8 c3], .bool true]) ∧ W.grownBy w' none := by
  have K : ∀ u, Calls Try.prog 24 #[.int .i64 3] u fun e w' => e = .returned (.tuple #[.agg #[.int .i64 3, .int .i64 3, .func (.func 37) #[] #[]], .bool true]) ∧ u.grownBy w' none := fun u => find_yes 1 3 u (by decide) rfl
  have K' := Lib.hid K
  have KE' := Lib.hid KE
  clear K KE
  go_enter Try.func8, Try.ntmps8
  go_wp2_with fail
  have hR : (W.alloc (.cells #[.int .u8 0, .int .u8 0, .int .u8 0, .int .u8 0] 24)).heap[W.heap.size]? = some (.cells #[.int .u8 0, .int .u8 0, .int .u8 0, .int .u8 0] 24 (0, 0)) := blk_at
  have HR := Lib.hid hR
  clear hR
  refine (K'.out _).mono ?_
  rintro e w1 ⟨rfl, g1⟩
  have R1 := (g1.block _ (blk_lt HR.out) (by simp)).trans HR.out
  have HR1 := Lib.hid R1
  have G := Lib.hid (gb_trans (World.grownBy_alloc _ _ _) g1)
  clear g1 R1
  go_wp2_with fail
  refine (KE'.out _).mono ?_
  rintro e w2 ⟨rfl, g2⟩
  have R2 := old0 (gb_trans (World.grownBy_alloc w1 _ none) g2) HR1.out (blk_lt HR1.out) (by simp)
  have hl2 := blk_lt R2
  have q0 : w2.cell? ⟨W.heap.size, 0, none⟩ = some (.int .u8 0) := blk_cell R2 0
  have q1 : w2.cell? ⟨W.heap.size, 1, none⟩ = some (.int .u8 0) := blk_cell R2 1
  have q2 : w2.cell? ⟨W.heap.size, 2, none⟩ = some (.int .u8 0) := blk_cell R2 2
  have q3 : w2.cell? ⟨W.heap.size, 3, none⟩ = some (.int .u8 0) := blk_cell R2 3
  have f0 := blk_free R2 0
  have f1 := blk_free R2 1
  have f2 := blk_free R2 2
  have f3 := blk_free R2 3
  have G2 := Lib.hid (gb_trans (gb_trans G.out (World.grownBy_alloc _ _ _)) g2)
  clear g2 R2
  go_wp2
  refine bodyPost_ret (v := .tuple #[.agg #[.int .u8 c0, .int .u8 c1, .int .u8 c2, .int .u8 c3], .bool true]) (by rw [results_cell_tmp (fn := Try.f8) rfl]; go_simp) rfl ⟨rfl, ?_⟩
  exact gb_own (gb_own (gb_own (gb_own G2.out (Nat.le_refl _) (gb_set _ _ _ _)) (Nat.le_refl _) (gb_set _ _ _ _)) (Nat.le_refl _) (gb_set _ _ _ _)) (Nat.le_refl _) (gb_set _ _ _ _)

set_option maxRecDepth 100000 in
theorem entry_y2 (s : ByteArray) (c0 c1 c2 c3 : Int) (W : World) (hm : s.size ≤ 9223372036854775807) (hs : 4 ≤ (s.size : Int))
    (KE : ∀ u, Calls Try.prog 37 #[.string s] u fun e w' => e = .returned (.agg #[.int .u8 c0, .int .u8 c1, .int .u8 c2, .int .u8 c3]) ∧ u.grownBy w' none) :
    Calls Try.prog 8 #[.string s, .int .i64 4] W fun e w' => e = .returned (.tuple #[.agg #[.int .u8 c0, .int .u8 c1, .int .u8 c2, .int .u8 c3], .bool true]) ∧ W.grownBy w' none := by
  have K : ∀ u, Calls Try.prog 24 #[.int .i64 4] u fun e w' => e = .returned (.tuple #[.agg #[.int .i64 4, .int .i64 4, .func (.func 37) #[] #[]], .bool true]) ∧ u.grownBy w' none := fun u => find_yes 2 4 u (by decide) rfl
  have K' := Lib.hid K
  have KE' := Lib.hid KE
  clear K KE
  go_enter Try.func8, Try.ntmps8
  go_wp2_with fail
  have hR : (W.alloc (.cells #[.int .u8 0, .int .u8 0, .int .u8 0, .int .u8 0] 24)).heap[W.heap.size]? = some (.cells #[.int .u8 0, .int .u8 0, .int .u8 0, .int .u8 0] 24 (0, 0)) := blk_at
  have HR := Lib.hid hR
  clear hR
  refine (K'.out _).mono ?_
  rintro e w1 ⟨rfl, g1⟩
  have R1 := (g1.block _ (blk_lt HR.out) (by simp)).trans HR.out
  have HR1 := Lib.hid R1
  have G := Lib.hid (gb_trans (World.grownBy_alloc _ _ _) g1)
  clear g1 R1
  go_wp2_with fail
  refine (KE'.out _).mono ?_
  rintro e w2 ⟨rfl, g2⟩
  have R2 := old0 (gb_trans (World.grownBy_alloc w1 _ none) g2) HR1.out (blk_lt HR1.out) (by simp)
  have hl2 := blk_lt R2
  have q0 : w2.cell? ⟨W.heap.size, 0, none⟩ = some (.int .u8 0) := blk_cell R2 0
  have q1 : w2.cell? ⟨W.heap.size, 1, none⟩ = some (.int .u8 0) := blk_cell R2 1
  have q2 : w2.cell? ⟨W.heap.size, 2, none⟩ = some (.int .u8 0) := blk_cell R2 2
  have q3 : w2.cell? ⟨W.heap.size, 3, none⟩ = some (.int .u8 0) := blk_cell R2 3
  have f0 := blk_free R2 0
  have f1 := blk_free R2 1
  have f2 := blk_free R2 2
  have f3 := blk_free R2 3
  have G2 := Lib.hid (gb_trans (gb_trans G.out (World.grownBy_alloc _ _ _)) g2)
  clear g2 R2
  go_wp2
  refine bodyPost_ret (v := .tuple #[.agg #[.int .u8 c0, .int .u8 c1, .int .u8 c2, .int .u8 c3], .bool true]) (by rw [results_cell_tmp (fn := Try.f8) rfl]; go_simp) rfl ⟨rfl, ?_⟩
  exact gb_own (gb_own (gb_own (gb_own G2.out (Nat.le_refl _) (gb_set _ _ _ _)) (Nat.le_refl _) (gb_set _ _ _ _)) (Nat.le_refl _) (gb_set _ _ _ _)) (Nat.le_refl _) (gb_set _ _ _ _)

set_option maxRecDepth 100000 in
theorem entry_y3 (s : ByteArray) (c0 c1 c2 c3 : Int) (W : World) (hm : s.size ≤ 9223372036854775807) (hs : 4 ≤ (s.size : Int))
    (KE : ∀ u, Calls Try.prog 38 #[.string s] u fun e w' => e = .returned (.agg #[.int .u8 c0, .int .u8 c1, .int .u8 c2, .int .u8 c3]) ∧ u.grownBy w' none) :
    Calls Try.prog 8 #[.string s, .int .i64 5] W fun e w' => e = .returned (.tuple #[.agg #[.int .u8 c0, .int .u8 c1, .int .u8 c2, .int .u8 c3], .bool true]) ∧ W.grownBy w' none := by
  have K : ∀ u, Calls Try.prog 24 #[.int .i64 5] u fun e w' => e = .returned (.tuple #[.agg #[.int .i64 5, .int .i64 4, .func (.func 38) #[] #[]], .bool true]) ∧ u.grownBy w' none := fun u => find_yes 3 5 u (by decide) rfl
  have K' := Lib.hid K
  have KE' := Lib.hid KE
  clear K KE
  go_enter Try.func8, Try.ntmps8
  go_wp2_with fail
  have hR : (W.alloc (.cells #[.int .u8 0, .int .u8 0, .int .u8 0, .int .u8 0] 24)).heap[W.heap.size]? = some (.cells #[.int .u8 0, .int .u8 0, .int .u8 0, .int .u8 0] 24 (0, 0)) := blk_at
  have HR := Lib.hid hR
  clear hR
  refine (K'.out _).mono ?_
  rintro e w1 ⟨rfl, g1⟩
  have R1 := (g1.block _ (blk_lt HR.out) (by simp)).trans HR.out
  have HR1 := Lib.hid R1
  have G := Lib.hid (gb_trans (World.grownBy_alloc _ _ _) g1)
  clear g1 R1
  go_wp2_with fail
  refine (KE'.out _).mono ?_
  rintro e w2 ⟨rfl, g2⟩
  have R2 := old0 (gb_trans (World.grownBy_alloc w1 _ none) g2) HR1.out (blk_lt HR1.out) (by simp)
  have hl2 := blk_lt R2
  have q0 : w2.cell? ⟨W.heap.size, 0, none⟩ = some (.int .u8 0) := blk_cell R2 0
  have q1 : w2.cell? ⟨W.heap.size, 1, none⟩ = some (.int .u8 0) := blk_cell R2 1
  have q2 : w2.cell? ⟨W.heap.size, 2, none⟩ = some (.int .u8 0) := blk_cell R2 2
  have q3 : w2.cell? ⟨W.heap.size, 3, none⟩ = some (.int .u8 0) := blk_cell R2 3
  have f0 := blk_free R2 0
  have f1 := blk_free R2 1
  have f2 := blk_free R2 2
  have f3 := blk_free R2 3
  have G2 := Lib.hid (gb_trans (gb_trans G.out (World.grownBy_alloc _ _ _)) g2)
  clear g2 R2
  go_wp2
  refine bodyPost_ret (v := .tuple #[.agg #[.int .u8 c0, .int .u8 c1, .int .u8 c2, .int .u8 c3], .bool true]) (by rw [results_cell_tmp (fn := Try.f8) rfl]; go_simp) rfl ⟨rfl, ?_⟩
  exact gb_own (gb_own (gb_own (gb_own G2.out (Nat.le_refl _) (gb_set _ _ _ _)) (Nat.le_refl _) (gb_set _ _ _ _)) (Nat.le_refl _) (gb_set _ _ _ _)) (Nat.le_refl _) (gb_set _ _ _ _)

end Go.Proofs.Ytljbhahdaepecaa.Pa
