/- Texts of one kind, one behind the other: PalC, PalD, PalE, PalF. -/
import Derived.Deep.LoopGhost
import Derived.Laws.EntriesVeiled
import Derived.Test.YtnieeckdldpebaaGreatG15
/- Layer 10: the code's find, Size, walked. -/
namespace Go.Proofs.YtnieeckdldpebaaGreat.Pa
open Go.ChangeShapes Go.WideShapes Go.ChangeAt Go.RowKit
open Go.Proofs.YtnieeckdldpebaaGreat.Sc Go.Proofs.YtnieeckdldpebaaGreat.Le
set_option linter.unusedVariables false

/-- The table's rows: kind, size, reading. -/
def kdL (k : Nat) : Int := k + 2
def szL (k : Nat) : Int := if k = 3 then 4 else k + 2
def fmL (k : Nat) : Nat := if k = 0 then 149 else if k = 3 then 151 else 150
theorem idx_lay (k : Nat) (hk : k < 4) (w : World) :
    (Instr.index 213 (.agg #[.int .i64 2, .int .i64 2, .func (.func 149) #[] #[], .int .i64 3, .int .i64 3, .func (.func 150) #[] #[], .int .i64 4, .int .i64 4, .func (.func 150) #[] #[], .int .i64 5, .int .i64 4, .func (.func 151) #[] #[]]) (.int .i64 (k : Int))).run Tryz.prog w = .ok (.agg #[.int .i64 (kdL k), .int .i64 (szL k), (.func (.func (fmL k)) #[] #[])]) w := by
  obtain rfl | rfl | rfl | rfl : k = 0 ∨ k = 1 ∨ k = 2 ∨ k = 3 := by omega
  all_goals kernel_rfl

/-- What holds at the head of the loop over the rows. -/
structure LI (W w : World) : Prop where
  res : w.heap[W.heap.size]? = some (.cells #[.int .i64 0, .int .i64 0, .nilFunc] 193 (0, 0))
  gb : W.grownBy w none
theorem LI.grown {W w w' : World} (h : LI W w) (g : w.grownBy w' none) : LI W w' := ⟨old0 g h.res (blk_lt h.res) (by simp), gb_trans h.gb g⟩

set_option maxRecDepth 100000 in
theorem find_yes (t : Nat) (kd : Int) (W : World) (ht : t < 4) (hkd : kd = t + 2) :
    Calls Tryz.prog 127 #[.int .i64 kd] W fun e w' => e = .returned (.tuple #[.agg #[.int .i64 kd, .int .i64 (szL t), .func (.func (fmL t)) #[] #[]], .bool true]) ∧ W.grownBy w' none := by
  have HKD := Lib.hid hkd
  obtain ⟨yt, hyt⟩ : ∃ x, szL t = x := ⟨_, rfl⟩
  obtain ⟨mt, hmt⟩ : ∃ x, fmL t = x := ⟨_, rfl⟩
  rw [hyt, hmt]
  have HYT := Lib.hid hyt
  have HMT := Lib.hid hmt
  clear hkd hyt hmt
  go_enter Tryz.func127, Tryz.ntmps127
  go_wp2_with fail
  have I1 : LI W (W.alloc (.cells #[.int .i64 0, .int .i64 0, .nilFunc] 193)) := ⟨blk_at, World.grownBy_alloc _ _ _⟩
  generalize W.alloc (.cells #[.int .i64 0, .int .i64 0, .nilFunc] 193) = w1 at I1 ⊢
  have HI1 := Lib.hid I1
  clear I1
  go_loopg [11] 5 (fun q iv wr => ∃ (k : Nat), k ≤ t ∧ q = 5 - k ∧ iv = .int .i64 k ∧ LI W wr)
  case atStart => exact ⟨0, by omega, rfl, rfl, HI1.out⟩
  case round =>
    obtain ⟨k, hk, rfl, rfl, J⟩ := hrel
    have hlt := blk_lt J.res
    have r0 : wr.cell? ⟨W.heap.size, 0, none⟩ = some (.int .i64 0) := blk_cell J.res 0
    have r1 : wr.cell? ⟨W.heap.size, 1, none⟩ = some (.int .i64 0) := blk_cell J.res 1
    have r2 : wr.cell? ⟨W.heap.size, 2, none⟩ = some .nilFunc := blk_cell J.res 2
    have f0 := blk_free J.res 0
    have f1 := blk_free J.res 1
    have f2 := blk_free J.res 2
    have HJ := Lib.hid J
    clear J HI1
    have h4 : k < 4 := by omega
    have hidx := idx_lay k h4
    have hK : kdL k = k + 2 := rfl
    by_cases hkt : k < t
    · have hne : (kdL k == kd) = false := by rw [hK, HKD.out, beq_eq_false_iff_ne]; omega
      obtain ⟨x, hx⟩ : ∃ x, kdL k = x := ⟨_, rfl⟩
      obtain ⟨y, hy⟩ : ∃ x, szL k = x := ⟨_, rfl⟩
      obtain ⟨m, hm⟩ : ∃ x, fmL k = x := ⟨_, rfl⟩
      rw [hx] at hne
      rw [hx, hy, hm] at hidx
      clear hK hx hy hm r0 r1 r2 f0 f1 f2
      go_wp2
      go_roundg (5 - (k + 1))
      case measure => omega
      case rel => exact ⟨k + 1, by omega, rfl, by go_num, HJ.out.grown (World.grownBy_alloc _ _ _)⟩
    · obtain rfl : k = t := by omega
      have hx : kdL k = kd := by rw [hK, HKD.out]
      rw [hx, HYT.out, HMT.out] at hidx
      clear hK hx
      go_wp2
      refine bodyPost_ret (v := .tuple #[.agg #[.int .i64 kd, .int .i64 yt, .func (.func mt) #[] #[]], .bool true]) (by rw [results_cell_tmp (fn := Tryz.f127) rfl]; go_simp) rfl ⟨rfl, ?_⟩
      exact gb_trans (gb_own (gb_own (gb_own HJ.out.gb (Nat.le_refl _) (gb_set _ _ _ _)) (Nat.le_refl _) (gb_set _ _ _ _)) (Nat.le_refl _) (gb_set _ _ _ _)) (World.grownBy_alloc _ _ _)

theorem size_yes (t : Nat) (kd : Int) (W : World) (ht : t < 4) (hkd : kd = t + 2) : Calls Tryz.prog 100 #[.int .i64 kd] W fun e w' => e = .returned (.int .i64 (szL t)) ∧ W.grownBy w' none := by
  have K := find_yes t kd W ht hkd
  obtain ⟨y, hy⟩ : ∃ x, szL t = x := ⟨_, rfl⟩
  obtain ⟨m, hm⟩ : ∃ x, fmL t = x := ⟨_, rfl⟩
  rw [hy, hm] at K
  rw [hy]
  have K' := Lib.hid K
  clear K hkd hy hm
  go_enter Tryz.func100, Tryz.ntmps100
  go_wp2_with fail
  refine K'.out.mono ?_
  rintro e w1 ⟨rfl, g1⟩
  go_wp2
  go_ret
  exact ⟨rfl, gb_trans g1 (World.grownBy_alloc _ _ _)⟩

end Go.Proofs.YtnieeckdldpebaaGreat.Pa

/- Layer 10: the code's entries of bytes, walked. -/
namespace Go.Proofs.YtnieeckdldpebaaGreat.Pa
open Go.ChangeShapes Go.WideShapes Go.ChangeAt Go.RowKit
open Go.Proofs.YtnieeckdldpebaaGreat.Sc Go.Proofs.YtnieeckdldpebaaGreat.Le
set_option linter.unusedVariables false

set_option maxRecDepth 100000 in
theorem five_calls (x y : Int) (W : World) (h : bits .and .i64 x 31 = y) (y0 : 0 ≤ y) (y1 : y ≤ 31) : Calls Tryz.prog 166 #[.int .i64 x] W fun e w' => e = .returned (.int .u8 (near y 31)) ∧ W = w' := by
  have K := fun u => bits_yes y 5 u (by decide) (by decide) (by unfold may; rw [show pw 5 - 1 = 31 from by decide]; simp; omega)
  rw [show pw 5 - 1 = 31 from by decide] at K
  obtain ⟨q, hq⟩ : ∃ q, near y 31 = q := ⟨_, rfl⟩
  simp only [hq] at K
  rw [hq]
  have e5 : ((5 : Nat) : Int) = 5 := rfl
  simp only [e5] at K
  have K' := Lib.hid K
  clear K hq e5
  go_enter Tryz.func166, Tryz.ntmps166
  go_wp2_with fail
  refine (K'.out _).mono ?_
  rintro e w' ⟨rfl, rfl⟩
  go_wp2
  go_ret
  exact ⟨rfl, rfl⟩

set_option maxRecDepth 100000 in
theorem opaque_calls (s : ByteArray) (c0 c1 c2 : Int) (W : World) (hs : 3 ≤ s.size) (hm : s.size ≤ 9223372036854775807) (h0 : ((s[0]'(by omega)).toNat : Int) = c0) (h1 : ((s[1]'(by omega)).toNat : Int) = c1) (h2 : ((s[2]'(by omega)).toNat : Int) = c2) :
    Calls Tryz.prog 150 #[.string s] W fun e w' => e = .returned (.agg #[.int .u8 c2, .int .u8 c1, .int .u8 c0, .int .u8 255]) ∧ W.grownBy w' none := by
  go_enter Tryz.func150, Tryz.ntmps150
  go_wp2_with fail
  have hR : (W.alloc (.cells #[.int .u8 0, .int .u8 0, .int .u8 0, .int .u8 0] 135)).heap[W.heap.size]? = some (.cells #[.int .u8 0, .int .u8 0, .int .u8 0, .int .u8 0] 135 (0, 0)) := blk_at
  have hG := World.grownBy_alloc W (.cells #[.int .u8 0, .int .u8 0, .int .u8 0, .int .u8 0] 135) none
  generalize W.alloc (.cells #[.int .u8 0, .int .u8 0, .int .u8 0, .int .u8 0] 135) = w1 at hR hG ⊢
  have q0 : w1.cell? ⟨W.heap.size, 0, none⟩ = some (.int .u8 0) := blk_cell hR 0
  have q1 : w1.cell? ⟨W.heap.size, 1, none⟩ = some (.int .u8 0) := blk_cell hR 1
  have q2 : w1.cell? ⟨W.heap.size, 2, none⟩ = some (.int .u8 0) := blk_cell hR 2
  have q3 : w1.cell? ⟨W.heap.size, 3, none⟩ = some (.int .u8 0) := blk_cell hR 3
  have f0 := blk_free hR 0
  have f1 := blk_free hR 1
  have f2 := blk_free hR 2
  have f3 := blk_free hR 3
  have HG := Lib.hid hG
  clear hR hG
  go_region
  go_wp2
  refine bodyPost_ret (v := .agg #[.int .u8 c2, .int .u8 c1, .int .u8 c0, .int .u8 255]) (by simp only [results, Tryz.results150]; go_simp) rfl ⟨rfl, ?_⟩
  exact gb_trans (gb_own (gb_own (gb_own (gb_own HG.out (Nat.le_refl _) (gb_set _ _ _ _)) (Nat.le_refl _) (gb_set _ _ _ _)) (Nat.le_refl _) (gb_set _ _ _ _)) (Nat.le_refl _) (gb_set _ _ _ _)) (gb_drew _ _)

set_option maxRecDepth 100000 in
theorem whole_calls (s : ByteArray) (c0 c1 c2 c3 : Int) (W : World) (hs : 4 ≤ s.size) (hm : s.size ≤ 9223372036854775807) (h0 : ((s[0]'(by omega)).toNat : Int) = c0) (h1 : ((s[1]'(by omega)).toNat : Int) = c1) (h2 : ((s[2]'(by omega)).toNat : Int) = c2) (h3 : ((s[3]'(by omega)).toNat : Int) = c3) :
    Calls Tryz.prog 151 #[.string s] W fun e w' => e = .returned (.agg #[.int .u8 c2, .int .u8 c1, .int .u8 c0, .int .u8 c3]) ∧ W.grownBy w' none := by
  go_enter Tryz.func151, Tryz.ntmps151
  go_wp2_with fail
  have hR : (W.alloc (.cells #[.int .u8 0, .int .u8 0, .int .u8 0, .int .u8 0] 135)).heap[W.heap.size]? = some (.cells #[.int .u8 0, .int .u8 0, .int .u8 0, .int .u8 0] 135 (0, 0)) := blk_at
  have hG := World.grownBy_alloc W (.cells #[.int .u8 0, .int .u8 0, .int .u8 0, .int .u8 0] 135) none
  generalize W.alloc (.cells #[.int .u8 0, .int .u8 0, .int .u8 0, .int .u8 0] 135) = w1 at hR hG ⊢
  have q0 : w1.cell? ⟨W.heap.size, 0, none⟩ = some (.int .u8 0) := blk_cell hR 0
  have q1 : w1.cell? ⟨W.heap.size, 1, none⟩ = some (.int .u8 0) := blk_cell hR 1
  have q2 : w1.cell? ⟨W.heap.size, 2, none⟩ = some (.int .u8 0) := blk_cell hR 2
  have q3 : w1.cell? ⟨W.heap.size, 3, none⟩ = some (.int .u8 0) := blk_cell hR 3
  have f0 := blk_free hR 0
  have f1 := blk_free hR 1
  have f2 := blk_free hR 2
  have f3 := blk_free hR 3
  have HG := Lib.hid hG
  clear hR hG
  go_region
  go_wp2
  refine bodyPost_ret (v := .agg #[.int .u8 c2, .int .u8 c1, .int .u8 c0, .int .u8 c3]) (by simp only [results, Tryz.results151]; go_simp) rfl ⟨rfl, ?_⟩
  exact gb_trans (gb_own (gb_own (gb_own (gb_own HG.out (Nat.le_refl _) (gb_set _ _ _ _)) (Nat.le_refl _) (gb_set _ _ _ _)) (Nat.le_refl _) (gb_set _ _ _ _)) (Nat.le_refl _) (gb_set _ _ _ _)) (gb_drew _ _)

theorem and_31 (x : Int) : bits .and .i64 x 31 = x % 32 := by
  have h : ((BitVec.ofInt 64 x) &&& (BitVec.ofInt 64 31)).toNat = (x % 32).toNat := by
    rw [BitVec.toNat_and, BitVec.toNat_ofInt, BitVec.toNat_ofInt]
    have e : ((31 : Int) % ((2 ^ 64 : Nat) : Int)).toNat = 2 ^ 5 - 1 := by decide
    rw [e, Nat.and_two_pow_sub_one_eq_mod]
    omega
  unfold bits
  show IntKind.i64.wrap (((BitVec.ofInt 64 x) &&& (BitVec.ofInt 64 31)).toNat : Int) = x % 32
  rw [h, IntKind.wrap_i64]
  omega
theorem or_high (a b : Nat) (ha : a < 256) (hb : b < 256) : bits .or .i64 (a : Int) ((b : Int) * 256) = (a : Int) + 256 * b := by
  have hn : a ||| (b * 256) = a + 256 * b := by
    have := Nat.shiftLeft_add_eq_or_of_lt (i := 8) (b := a) (by omega) b
    rw [Nat.or_comm, show b * 256 = b <<< 8 from by rw [Nat.shiftLeft_eq], ← this, Nat.shiftLeft_eq]
    omega
  have h1 : (BitVec.ofInt 64 (a : Int)).toNat = a := by
    rw [BitVec.ofInt_natCast, BitVec.toNat_ofNat]; exact Nat.mod_eq_of_lt (by omega)
  have h2 : (BitVec.ofInt 64 ((b * 256 : Nat) : Int)).toNat = b * 256 := by
    rw [BitVec.ofInt_natCast, BitVec.toNat_ofNat]; exact Nat.mod_eq_of_lt (by omega)
  have e : (b : Int) * 256 = ((b * 256 : Nat) : Int) := by omega
  rw [e]
  show IntKind.i64.wrap ((BitVec.ofInt 64 (a : Int) ||| BitVec.ofInt 64 ((b * 256 : Nat) : Int)).toNat : Int) = _
  rw [BitVec.toNat_or, h1, h2, hn, IntKind.wrap_i64]
  omega

set_option maxRecDepth 100000 in
theorem packed_calls (s : ByteArray) (a b : Nat) (W : World) (hs : 2 ≤ s.size) (hm : s.size ≤ 9223372036854775807) (h0 : (s[0]'(by omega)).toNat = a) (h1 : (s[1]'(by omega)).toNat = b) :
    Calls Tryz.prog 149 #[.string s] W fun e w' => e = .returned (.agg #[.int .u8 (near (((a : Int) + 256 * b) / 1024 % 32) 31), .int .u8 (near (((a : Int) + 256 * b) / 32 % 32) 31), .int .u8 (near (((a : Int) + 256 * b) % 32) 31), .int .u8 255]) ∧ W.grownBy w' none := by
  have ha : a < 256 := by rw [← h0]; exact UInt8.toNat_lt _
  have hb : b < 256 := by rw [← h1]; exact UInt8.toNat_lt _
  have hor := or_high a b ha hb
  obtain ⟨z, hz⟩ : ∃ z, (a : Int) + 256 * b = z := ⟨_, rfl⟩
  rw [hz] at hor ⊢
  have z0 : 0 ≤ z := by omega
  have z1 : z ≤ 65535 := by omega
  have KR := fun u => five_calls (z / 1024) (z / 1024 % 32) u (and_31 _) (by omega) (by omega)
  have KG := fun u => five_calls (z / 32) (z / 32 % 32) u (and_31 _) (by omega) (by omega)
  have KB := fun u => five_calls z (z % 32) u (and_31 _) (by omega) (by omega)
  obtain ⟨x, hx⟩ : ∃ x, near (z / 1024 % 32) 31 = x := ⟨_, rfl⟩
  obtain ⟨y, hy⟩ : ∃ x, near (z / 32 % 32) 31 = x := ⟨_, rfl⟩
  obtain ⟨v, hv⟩ : ∃ x, near (z % 32) 31 = x := ⟨_, rfl⟩
  simp only [hx] at KR
  simp only [hy] at KG
  simp only [hv] at KB
  rw [hx, hy, hv]
  have KR' := Lib.hid KR
  have KG' := Lib.hid KG
  have KB' := Lib.hid KB
  have HO := Lib.hid hor
  have H0 := Lib.hid h0
  have H1 := Lib.hid h1
  clear KR KG KB hx hy hv hz hor
  go_enter Tryz.func149, Tryz.ntmps149
  go_wp2_with fail
  have hR : (W.alloc (.cells #[.int .u8 0, .int .u8 0, .int .u8 0, .int .u8 0] 135)).heap[W.heap.size]? = some (.cells #[.int .u8 0, .int .u8 0, .int .u8 0, .int .u8 0] 135 (0, 0)) := blk_at
  have hG := World.grownBy_alloc W (.cells #[.int .u8 0, .int .u8 0, .int .u8 0, .int .u8 0] 135) none
  generalize W.alloc (.cells #[.int .u8 0, .int .u8 0, .int .u8 0, .int .u8 0] 135) = w1 at hR hG ⊢
  have q0 : w1.cell? ⟨W.heap.size, 0, none⟩ = some (.int .u8 0) := blk_cell hR 0
  have q1 : w1.cell? ⟨W.heap.size, 1, none⟩ = some (.int .u8 0) := blk_cell hR 1
  have q2 : w1.cell? ⟨W.heap.size, 2, none⟩ = some (.int .u8 0) := blk_cell hR 2
  have q3 : w1.cell? ⟨W.heap.size, 3, none⟩ = some (.int .u8 0) := blk_cell hR 3
  have f0 := blk_free hR 0
  have f1 := blk_free hR 1
  have f2 := blk_free hR 2
  have f3 := blk_free hR 3
  have HG := Lib.hid hG
  have s1 : IntKind.i64.wrap ((b : Int) * 256) = (b : Int) * 256 := by rw [IntKind.wrap_i64]; omega
  have hor := HO.out
  clear hR hG
  go_quiet (fail)
  clear s1 hor h0 h1
  go_wp2_with fail
  refine (KR'.out _).mono ?_
  rintro e w' ⟨rfl, rfl⟩
  go_wp2_with fail
  refine (KG'.out _).mono ?_
  rintro e w' ⟨rfl, rfl⟩
  go_wp2_with fail
  refine (KB'.out _).mono ?_
  rintro e w' ⟨rfl, rfl⟩
  go_wp2
  refine bodyPost_ret (v := .agg #[.int .u8 x, .int .u8 y, .int .u8 v, .int .u8 255]) (by simp [results, Tryz.results149, go_sem, q0, q1, q2, q3]) rfl ⟨rfl, ?_⟩
  exact gb_own (gb_own (gb_own (gb_own (gb_trans HG.out (gb_drewN _ _ _)) (Nat.le_refl _) (gb_set _ _ _ _)) (Nat.le_refl _) (gb_set _ _ _ _)) (Nat.le_refl _) (gb_set _ _ _ _)) (Nat.le_refl _) (gb_set _ _ _ _)

set_option maxRecDepth 100000 in
theorem entry_y0 (s : ByteArray) (c0 c1 c2 c3 : Int) (W : World) (hm : s.size ≤ 9223372036854775807) (hs : 2 ≤ (s.size : Int))
    (KE : ∀ u, Calls Tryz.prog 149 #[.string s] u fun e w' => e = .returned (.agg #[.int .u8 c0, .int .u8 c1, .int .u8 c2, .int .u8 c3]) ∧ u.grownBy w' none) :
    Calls Tryz.prog 160 #[.string s, .int .i64 2] W fun e w' => e = .returned (.tuple #[.agg #[.int .u8 c0, .int .u8 c1, .int .u8 c2, .int .u8 c3], .bool true]) ∧ W.grownBy w' none := by
  have K : ∀ u, Calls Tryz.prog 127 #[.int .i64 2] u fun e w' => e = .returned (.tuple #[.agg #[.int .i64 2, .int .i64 2, .func (.func 149) #[] #[]], .bool true]) ∧ u.grownBy w' none := fun u => find_yes 0 2 u (by decide) rfl
  have K' := Lib.hid K
  have KE' := Lib.hid KE
  clear K KE
  go_enter Tryz.func160, Tryz.ntmps160
  go_wp2_with fail
  have hR : (W.alloc (.cells #[.int .u8 0, .int .u8 0, .int .u8 0, .int .u8 0] 135)).heap[W.heap.size]? = some (.cells #[.int .u8 0, .int .u8 0, .int .u8 0, .int .u8 0] 135 (0, 0)) := blk_at
  have HR := Lib.hid hR
  clear hR
  refine (K'.out _).mono ?_
  rintro e w1 ⟨rfl, g1⟩
  have R1 := (g1.block _ (blk_lt HR.out) (by simp)).trans HR.out
  have HR1 := Lib.hid R1
  have G := Lib.hid (gb_trans (World.grownBy_alloc _ _ _) g1)
  clear g1 R1
  go_wp2_with fail
  refine (KE'.out _).mono ?_
  rintro e w2 ⟨rfl, g2⟩
  have R2 := old0 (gb_trans (World.grownBy_alloc w1 _ none) g2) HR1.out (blk_lt HR1.out) (by simp)
  have hl2 := blk_lt R2
  have q0 : w2.cell? ⟨W.heap.size, 0, none⟩ = some (.int .u8 0) := blk_cell R2 0
  have q1 : w2.cell? ⟨W.heap.size, 1, none⟩ = some (.int .u8 0) := blk_cell R2 1
  have q2 : w2.cell? ⟨W.heap.size, 2, none⟩ = some (.int .u8 0) := blk_cell R2 2
  have q3 : w2.cell? ⟨W.heap.size, 3, none⟩ = some (.int .u8 0) := blk_cell R2 3
  have f0 := blk_free R2 0
  have f1 := blk_free R2 1
  have f2 := blk_free R2 2
  have f3 := blk_free R2 3
  have G2 := Lib.hid (gb_trans (gb_trans G.out (World.grownBy_alloc _ _ _)) g2)
  clear g2 R2
  go_wp2
  refine bodyPost_ret (v := .tuple #[.agg #[.int .u8 c0, .int .u8 c1, .int .u8 c2, .int .u8 c3], .bool true]) (by rw [results_cell_tmp (fn := Tryz.f160) rfl]; go_simp) rfl ⟨rfl, ?_⟩
  exact gb_own (gb_own (gb_own (gb_own G2.out (Nat.le_refl _) (gb_set _ _ _ _)) (Nat.le_refl _) (gb_set _ _ _ _)) (Nat.le_refl _) (gb_set _ _ _ _)) (Nat.le_refl _) (gb_set _ _ _ _)

set_option maxRecDepth 100000 in
theorem entry_y1 (s : ByteArray) (c0 c1 c2 c3 : Int) (W : World) (hm : s.size ≤ 9223372036854775807) (hs : 3 ≤ (s.size : Int))
    (KE : ∀ u, Calls Tryz.prog 150 #[.string s] u fun e w' => e = .returned (.agg #[.int .u8 c0, .int .u8 c1, .int .u8 c2, .int .u8 c3]) ∧ u.grownBy w' none) :
    Calls Tryz.prog 160 #[.string s, .int .i64 3] W fun e w' => e = .returned (.tuple #[.agg #[.int .u8 c0, .int .u8 c1, .int .u8 c2, .int .u8 c3], .bool true]) ∧ W.grownBy w' none := by
  have K : ∀ u, Calls Tryz.prog 127 #[.int .i64 3] u fun e w' => e = .returned (.tuple #[.agg #[.int .i64 3, .int .i64 3, .func (.func 150) #[] #[]], .bool true]) ∧ u.grownBy w' none := fun u => find_yes 1 3 u (by decide) rfl
  have K' := Lib.hid K
  have KE' := Lib.hid KE
  clear K KE
  go_enter Tryz.func160, Tryz.ntmps160
  go_wp2_with fail
  have hR : (W.alloc (.cells #[.int .u8 0, .int .u8 0, .int .u8 0, .int .u8 0] 135)).heap[W.heap.size]? = some (.cells #[.int .u8 0, .int .u8 0, .int .u8 0, .int .u8 0] 135 (0, 0)) := blk_at
  have HR := Lib.hid hR
  clear hR
  refine (K'.out _).mono ?_
  rintro e w1 ⟨rfl, g1⟩
  have R1 := (g1.block _ (blk_lt HR.out) (by simp)).trans HR.out
  have HR1 := Lib.hid R1
  have G := Lib.hid (gb_trans (World.grownBy_alloc _ _ _) g1)
  clear g1 R1
  go_wp2_with fail
  refine (KE'.out _).mono ?_
  rintro e w2 ⟨rfl, g2⟩
  have R2 := old0 (gb_trans (World.grownBy_alloc w1 _ none) g2) HR1.out (blk_lt HR1.out) (by simp)
  have hl2 := blk_lt R2
  have q0 : w2.cell? ⟨W.heap.size, 0, none⟩ = some (.int .u8 0) := blk_cell R2 0
  have q1 : w2.cell? ⟨W.heap.size, 1, none⟩ = some (.int .u8 0) := blk_cell R2 1
  have q2 : w2.cell? ⟨W.heap.size, 2, none⟩ = some (.int .u8 0) := blk_cell R2 2
  have q3 : w2.cell? ⟨W.heap.size, 3, none⟩ = some (.int .u8 0) := blk_cell R2 3
  have f0 := blk_free R2 0
  have f1 := blk_free R2 1
  have f2 := blk_free R2 2
  have f3 := blk_free R2 3
  have G2 := Lib.hid (gb_trans (gb_trans G.out (World.grownBy_alloc _ _ _)) g2)
  clear g2 R2
  go_wp2
  refine bodyPost_ret (v := .tuple #[.agg #[.int .u8 c0, .int .u8 c1, .int .u8 c2, .int .u8 c3], .bool true]) (by rw [results_cell_tmp (fn := Tryz.f160) rfl]; go_simp) rfl ⟨rfl, ?_⟩
  exact gb_own (gb_own (gb_own (gb_own G2.out (Nat.le_refl _) (gb_set _ _ _ _)) (Nat.le_refl _) (gb_set _ _ _ _)) (Nat.le_refl _) (gb_set _ _ _ _)) (Nat.le_refl _) (gb_set _ _ _ _)

set_option maxRecDepth 100000 in
theorem entry_y3 (s : ByteArray) (c0 c1 c2 c3 : Int) (W : World) (hm : s.size ≤ 9223372036854775807) (hs : 4 ≤ (s.size : Int))
    (KE : ∀ u, Calls Tryz.prog 151 #[.string s] u fun e w' => e = .returned (.agg #[.int .u8 c0, .int .u8 c1, .int .u8 c2, .int .u8 c3]) ∧ u.grownBy w' none) :
    Calls Tryz.prog 160 #[.string s, .int .i64 5] W fun e w' => e = .returned (.tuple #[.agg #[.int .u8 c0, .int .u8 c1, .int .u8 c2, .int .u8 c3], .bool true]) ∧ W.grownBy w' none := by
  have K : ∀ u, Calls Tryz.prog 127 #[.int .i64 5] u fun e w' => e = .returned (.tuple #[.agg #[.int .i64 5, .int .i64 4, .func (.func 151) #[] #[]], .bool true]) ∧ u.grownBy w' none := fun u => find_yes 3 5 u (by decide) rfl
  have K' := Lib.hid K
  have KE' := Lib.hid KE
  clear K KE
  go_enter Tryz.func160, Tryz.ntmps160
  go_wp2_with fail
  have hR : (W.alloc (.cells #[.int .u8 0, .int .u8 0, .int .u8 0, .int .u8 0] 135)).heap[W.heap.size]? = some (.cells #[.int .u8 0, .int .u8 0, .int .u8 0, .int .u8 0] 135 (0, 0)) := blk_at
  have HR := Lib.hid hR
  clear hR
  refine (K'.out _).mono ?_
  rintro e w1 ⟨rfl, g1⟩
  have R1 := (g1.block _ (blk_lt HR.out) (by simp)).trans HR.out
  have HR1 := Lib.hid R1
  have G := Lib.hid (gb_trans (World.grownBy_alloc _ _ _) g1)
  clear g1 R1
  go_wp2_with fail
  refine (KE'.out _).mono ?_
  rintro e w2 ⟨rfl, g2⟩
  have R2 := old0 (gb_trans (World.grownBy_alloc w1 _ none) g2) HR1.out (blk_lt HR1.out) (by simp)
  have hl2 := blk_lt R2
  have q0 : w2.cell? ⟨W.heap.size, 0, none⟩ = some (.int .u8 0) := blk_cell R2 0
  have q1 : w2.cell? ⟨W.heap.size, 1, none⟩ = some (.int .u8 0) := blk_cell R2 1
  have q2 : w2.cell? ⟨W.heap.size, 2, none⟩ = some (.int .u8 0) := blk_cell R2 2
  have q3 : w2.cell? ⟨W.heap.size, 3, none⟩ = some (.int .u8 0) := blk_cell R2 3
  have f0 := blk_free R2 0
  have f1 := blk_free R2 1
  have f2 := blk_free R2 2
  have f3 := blk_free R2 3
  have G2 := Lib.hid (gb_trans (gb_trans G.out (World.grownBy_alloc _ _ _)) g2)
  clear g2 R2
  go_wp2
  refine bodyPost_ret (v := .tuple #[.agg #[.int .u8 c0, .int .u8 c1, .int .u8 c2, .int .u8 c3], .bool true]) (by rw [results_cell_tmp (fn := Tryz.f160) rfl]; go_simp) rfl ⟨rfl, ?_⟩
  exact gb_own (gb_own (gb_own (gb_own G2.out (Nat.le_refl _) (gb_set _ _ _ _)) (Nat.le_refl _) (gb_set _ _ _ _)) (Nat.le_refl _) (gb_set _ _ _ _)) (Nat.le_refl _) (gb_set _ _ _ _)

end Go.Proofs.YtnieeckdldpebaaGreat.Pa

/- Layer 10: the chapter's examples; PaletteEntries, walked. -/
namespace Go.Proofs.YtnieeckdldpebaaGreat.Pa
open Go.ChangeShapes Go.WideShapes Go.ChangeAt Go.RowKit
open Go.Proofs.YtnieeckdldpebaaGreat.Sc Go.Proofs.YtnieeckdldpebaaGreat.Le
set_option linter.unusedVariables false

end Go.Proofs.YtnieeckdldpebaaGreat.Pa

/- Layer 10: how far colours are apart, by the code; Nearest, walked. -/
namespace Go.Proofs.YtnieeckdldpebaaGreat.Pa
open Go.ChangeShapes Go.WideShapes Go.ChangeAt Go.RowKit
open Go.Proofs.YtnieeckdldpebaaGreat.Sc Go.Proofs.YtnieeckdldpebaaGreat.Le
set_option linter.unusedVariables false

/-- Colours in memory, one behind the other. -/
def ColsAt (b off len : Nat) (C : Nat → Nat → Int) (w : World) : Prop := ∀ i, i < len → ∀ j, j < 4 → w.cell? ⟨b, off + i * 4 + j, none⟩ = some (.int .u8 (C i j))
theorem ColsAt.grown {b off len : Nat} {C : Nat → Nat → Int} {w w' : World} (h : ColsAt b off len C w) (g : w.grownBy w' none) : ColsAt b off len C w' := fun i hi j hj => g.cell (h i hi j hj) (by simp)

end Go.Proofs.YtnieeckdldpebaaGreat.Pa
