/- Texts of one kind, one behind the other: Ff1. -/
import Derived.Test.YtboojlkncbipoaaGreatG11
import Derived.Test.YtboojlkncbipoaaGreatG14
/- Farbfeld: a pixel's colour. -/
namespace Go.Proofs.YtboojlkncbipoaaGreat.Ff
open Go.ChangeShapes Go.WideShapes Go.ChangeAt Go.RowKit
open Go.Proofs.YtboojlkncbipoaaGreat.Le Go.Proofs.YtboojlkncbipoaaGreat.Tk Go.Proofs.YtboojlkncbipoaaGreat.Sr Go.Proofs.YtboojlkncbipoaaGreat.Sc Go.Proofs.YtboojlkncbipoaaGreat.Sh
set_option linter.unusedVariables false

/-- The number of two bytes; it as a sample. -/
def n2 (s : ByteArray) (a : Nat) : Nat := Sr.numV true (s.extract a (a + 2))
def nf (s : ByteArray) (a : Nat) : Int := near ((n2 s a : Nat) : Int) ((65535 : Nat) : Int)
theorem n2_is (s : ByteArray) (a : Nat) (h : a + 2 ≤ s.size) : n2 s a = 256 * bt s a + bt s (a + 1) := by
  have hl : (s.extract a (a + 2)).data.toList = [s.data.toList.getD a 0, s.data.toList.getD (a + 1) 0] := by
    rw [Lib.extract_data]
    have h2 : a + 1 < s.data.toList.length := by rw [← Lib.size_eq]; exact h
    rw [show a + 2 - a = 2 from by omega]
    rw [List.getD_eq_getElem?_getD, List.getD_eq_getElem?_getD, List.getElem?_eq_getElem h2, List.getElem?_eq_getElem (Nat.lt_of_succ_lt h2)]
    rw [List.drop_eq_getElem_cons (Nat.lt_of_succ_lt h2), List.drop_eq_getElem_cons h2]
    rfl
  unfold n2 Sr.numV
  rw [hl]
  simp [acc, ordd, bt]
theorem bt_lt (s : ByteArray) (k : Nat) : bt s k < 256 := by unfold bt; exact (s.data.toList.getD k 0).toNat_lt
theorem n2_le (s : ByteArray) (a : Nat) : n2 s a ≤ 65535 := by
  have h := acc_lt (s.extract a (a + 2)).data.toList
  have h2 : (s.extract a (a + 2)).data.toList.length ≤ 2 := by rw [← Lib.size_eq, ByteArray.size_extract]; omega
  have h3 := Nat.lt_of_lt_of_le h (Nat.pow_le_pow_right (by decide) h2)
  have h4 : acc (s.extract a (a + 2)).data.toList < 65536 := Nat.lt_of_lt_of_le h3 (by decide)
  exact Nat.le_of_lt_succ h4
theorem nf_bd (s : ByteArray) (a : Nat) : 0 ≤ nf s a ∧ nf s a ≤ 255 :=
  ⟨near_0 (by decide) (by omega), near_255 (by decide) (by have := n2_le s a; omega)⟩
/-- Four cells, of which the first k are laid. -/
def VK (f : Nat → Int) : Nat → Array Value
  | 0 => #[.int .u8 0, .int .u8 0, .int .u8 0, .int .u8 0]
  | 1 => #[.int .u8 (f 0), .int .u8 0, .int .u8 0, .int .u8 0]
  | 2 => #[.int .u8 (f 0), .int .u8 (f 1), .int .u8 0, .int .u8 0]
  | 3 => #[.int .u8 (f 0), .int .u8 (f 1), .int .u8 (f 2), .int .u8 0]
  | _ => #[.int .u8 (f 0), .int .u8 (f 1), .int .u8 (f 2), .int .u8 (f 3)]
/-- The colour's four cells; what color has made; the scaler. -/
structure CI (W : World) (B b : Nat) (f : Nat → Int) (k : Nat) (w : World) : Prop where
  r : w.heap[W.heap.size]? = some (.cells #[.int .u8 0, .int .u8 0, .int .u8 0, .int .u8 0] 74 (0, 0))
  v : w.heap[W.heap.size + 1]? = some (.cells (VK f k) 219 (0, 0))
  q : Sq B b 65535 w
  t : Tn W w [b]

theorem Calls.arg_eq {F : Nat} {p : Value} {a b : Int} {w : World} {K : Ending → World → Prop} (h : a = b) (k : Calls Tryz.prog F #[p, .int .i64 b] w K) : Calls Tryz.prog F #[p, .int .i64 a] w K := h ▸ k

set_option maxRecDepth 100000 in
set_option maxHeartbeats 1000000 in
theorem color_calls (B b : Nat) (z : ByteArray) (W : World) (hz : z.size = 8) (hb : b < W.heap.size) (S : Sq B b 65535 W) :
    Calls Tryz.prog 117 #[.string z, .pointer (some ⟨b, 0, none⟩)] W fun e w' => e = .returned (.agg #[.int .u8 (nf z 0), .int .u8 (nf z 2), .int .u8 (nf z 4), .int .u8 (nf z 6)]) ∧ Sq B b 65535 w' ∧ Tn W w' [b] := by
  have KO := Lib.hid (fun u a (S : Sq B b 65535 u) => sq_yes B b 65535 (n2 z a) u S (by decide) (by decide) (n2_le z a))
  have G0 := gb_trans (World.grownBy_alloc W (.cells #[.int .u8 0, .int .u8 0, .int .u8 0, .int .u8 0] 74) none) (World.grownBy_alloc _ (.cells #[.int .u8 0, .int .u8 0, .int .u8 0, .int .u8 0] 219) none)
  have I0 : CI W B b (fun i => nf z (2 * i)) 0 ((W.alloc (.cells #[.int .u8 0, .int .u8 0, .int .u8 0, .int .u8 0] 74)).alloc (.cells #[.int .u8 0, .int .u8 0, .int .u8 0, .int .u8 0] 219)) := by
    refine ⟨blk_al blk_at _, ?_, S.turned (Tn.gb G0 (S := []) (by simp)) (by simp) (by simp), Tn.gb G0 (by simp)⟩
    rw [← size_alloc W (.cells #[.int .u8 0, .int .u8 0, .int .u8 0, .int .u8 0] 74)]
    exact blk_at
  have HI0 := Lib.hid I0
  have HZ := Lib.hid hz
  clear G0 I0 hz S
  go_enter Tryz.func117, Tryz.ntmps117
  go_wp2_with fail
  generalize (W.alloc (.cells #[.int .u8 0, .int .u8 0, .int .u8 0, .int .u8 0] 74)).alloc (.cells #[.int .u8 0, .int .u8 0, .int .u8 0, .int .u8 0] 219) = w0 at HI0 ⊢
  go_loopg [7] 4 (fun q iv wr => ∃ k : Nat, k ≤ 4 ∧ q = 4 - k ∧ iv = .int .i64 k ∧ CI W B b (fun i => nf z (2 * i)) k wr)
  case atStart => exact ⟨0, by omega, rfl, rfl, HI0.out⟩
  case round =>
    obtain ⟨k, hk, rfl, rfl, I⟩ := hrel
    have HI := Lib.hid I
    clear I HI0
    obtain rfl | rfl | rfl | rfl | rfl : k = 0 ∨ k = 1 ∨ k = 2 ∨ k = 3 ∨ k = 4 := by omega
    · have hz := HZ.out
      have k1 : 0 < z.size := by omega
      have k2 : 1 < z.size := by omega
      have h1 := bt_at z 0 k1
      have h2 := bt_at z 1 k2
      have hn : n2 z 0 = 256 * bt z 0 + bt z 1 := n2_is z 0 (by omega)
      have b1 := bt_lt z 0
      have b2 := bt_lt z 1
      obtain ⟨c, hc⟩ : ∃ c, bt z 0 = c := ⟨_, rfl⟩
      obtain ⟨d, hd⟩ : ∃ c, bt z 1 = c := ⟨_, rfl⟩
      rw [hc] at h1 hn b1
      rw [hd] at h2 hn b2
      have OR := or_low c d (by omega) b2
      have s1 : IntKind.i64.wrap ((c : Int) * 256) = (c : Int) * 256 := by rw [IntKind.wrap_i64]; omega
      have s2 : wrap64 ((c : Int) * 256) = (c : Int) * 256 := IntWalk.wrap64_in _ (by omega)
      have a0 : IntKind.i64.wrap 0 = 0 := by decide
      have a1 : IntKind.i64.wrap 1 = 1 := by decide
      have wc : IntKind.i64.wrap (c : Int) = (c : Int) := by rw [IntKind.wrap_i64]; omega
      have wd : IntKind.i64.wrap (d : Int) = (d : Int) := by rw [IntKind.wrap_i64]; omega
      rw [show ((256 * c + d : Nat) : Int) = 256 * (c : Int) + (d : Int) from by omega] at OR
      have KK := fun u S => KO.out u 0 S
      rw [hn, show ((256 * c + d : Nat) : Int) = 256 * (c : Int) + (d : Int) from by omega] at KK
      obtain ⟨v, hv⟩ : ∃ v, near (256 * (c : Int) + (d : Int)) ((65535 : Nat) : Int) = v := ⟨_, rfl⟩
      rw [hv] at KK
      have KK := Lib.hid (KK _ (HI.out.q.turned (Tn.gb (gb_drew wr none) (S := []) (by simp)) (by simp) (by simp)))
      have HV := Lib.hid (show nf z 0 = v by unfold nf; rw [hn, ← hv]; congr 1)
      have V0 : wr.heap[W.heap.size + 1]? = some (.cells #[.int .u8 0, .int .u8 0, .int .u8 0, .int .u8 0] 219 (0, 0)) := HI.out.v
      have hlw := blk_lt V0
      have HV0 := Lib.hid V0
      clear V0
      clear hn hc hd hk hv b1 b2
      go_wp2_with fail
      go_region_held3 (fun _ => True) (go_keep)
        (first
          | (go_at_call 160; (with_reducible refine KK.out.mono ?_); rintro e w5 ⟨rfl, S5, G5⟩; have t5 : Tn wr w5 [b] := (Tn.gb (gb_drew wr none) (S := [b]) (by simp)).trans (Tn.gb G5 (by simp)); have v5 := (t5.block _ hlw (by simp; omega)).trans HV0.out; have f5 := blk_free v5 0; have g5 : w5.cell? ⟨W.heap.size + 1, 0, none⟩ = some (.int .u8 0) := blk_cell v5 0))
      all_goals
        have V6 : (w5.setCell ⟨W.heap.size + 1, 0, none⟩ (.int .u8 v)).heap[W.heap.size + 1]? = some (.cells (VK (fun i => nf z (2 * i)) 1) 219 (0, 0)) := by
          have h := blk_set v5 0 (.int .u8 v)
          rw [← HV.out] at h ⊢
          exact h
        have t6 : Tn w5 (w5.setCell ⟨W.heap.size + 1, 0, none⟩ (.int .u8 v)) [W.heap.size + 1] := (Tn.refl w5 _).st (by simp)
        have S6 := sq_far S5 v5 (show (4 : Nat) ≠ 65535 + 1 from by decide) (by omega) t6
        have R6 := (t6.block _ (by have := t5.size; omega) (by simp)).trans ((t5.block _ (blk_lt HI.out.r) (by simp; omega)).trans HI.out.r)
        have HI6 := Lib.hid (show CI W B b (fun i => nf z (2 * i)) 1 _ from ⟨R6, V6, S6, (HI.out.t.trans t5).over t6 (by intro i hi; simp at hi; left; omega)⟩)
        clear S5 G5 t5 v5 f5 g5 V6 t6 S6 R6
        go_wp2
        go_roundg (4 - 1)
        case measure => omega
        case rel => exact ⟨1, by omega, rfl, by go_num, HI6.out⟩
    · have hz := HZ.out
      have k1 : 2 < z.size := by omega
      have k2 : 3 < z.size := by omega
      have h1 := bt_at z 2 k1
      have h2 := bt_at z 3 k2
      have hn : n2 z 2 = 256 * bt z 2 + bt z 3 := n2_is z 2 (by omega)
      have b1 := bt_lt z 2
      have b2 := bt_lt z 3
      obtain ⟨c, hc⟩ : ∃ c, bt z 2 = c := ⟨_, rfl⟩
      obtain ⟨d, hd⟩ : ∃ c, bt z 3 = c := ⟨_, rfl⟩
      rw [hc] at h1 hn b1
      rw [hd] at h2 hn b2
      have OR := or_low c d (by omega) b2
      have s1 : IntKind.i64.wrap ((c : Int) * 256) = (c : Int) * 256 := by rw [IntKind.wrap_i64]; omega
      have s2 : wrap64 ((c : Int) * 256) = (c : Int) * 256 := IntWalk.wrap64_in _ (by omega)
      have a0 : IntKind.i64.wrap 2 = 2 := by decide
      have a1 : IntKind.i64.wrap 3 = 3 := by decide
      have wc : IntKind.i64.wrap (c : Int) = (c : Int) := by rw [IntKind.wrap_i64]; omega
      have wd : IntKind.i64.wrap (d : Int) = (d : Int) := by rw [IntKind.wrap_i64]; omega
      rw [show ((256 * c + d : Nat) : Int) = 256 * (c : Int) + (d : Int) from by omega] at OR
      have KK := fun u S => KO.out u 2 S
      rw [hn, show ((256 * c + d : Nat) : Int) = 256 * (c : Int) + (d : Int) from by omega] at KK
      obtain ⟨v, hv⟩ : ∃ v, near (256 * (c : Int) + (d : Int)) ((65535 : Nat) : Int) = v := ⟨_, rfl⟩
      rw [hv] at KK
      have KK := Lib.hid (KK _ (HI.out.q.turned (Tn.gb (gb_drew wr none) (S := []) (by simp)) (by simp) (by simp)))
      have HV := Lib.hid (show nf z 2 = v by unfold nf; rw [hn, ← hv]; congr 1)
      have V0 : wr.heap[W.heap.size + 1]? = some (.cells #[.int .u8 (nf z 0), .int .u8 0, .int .u8 0, .int .u8 0] 219 (0, 0)) := HI.out.v
      have hlw := blk_lt V0
      have HV0 := Lib.hid V0
      clear V0
      clear hn hc hd hk hv b1 b2
      go_wp2_with fail
      go_region_held3 (fun _ => True) (go_keep)
        (first
          | (go_at_call 160; (with_reducible refine KK.out.mono ?_); rintro e w5 ⟨rfl, S5, G5⟩; have t5 : Tn wr w5 [b] := (Tn.gb (gb_drew wr none) (S := [b]) (by simp)).trans (Tn.gb G5 (by simp)); have v5 := (t5.block _ hlw (by simp; omega)).trans HV0.out; have f5 := blk_free v5 1; have g5 : w5.cell? ⟨W.heap.size + 1, 1, none⟩ = some (.int .u8 0) := blk_cell v5 1))
      all_goals
        have V6 : (w5.setCell ⟨W.heap.size + 1, 1, none⟩ (.int .u8 v)).heap[W.heap.size + 1]? = some (.cells (VK (fun i => nf z (2 * i)) 2) 219 (0, 0)) := by
          have h := blk_set v5 1 (.int .u8 v)
          rw [← HV.out] at h ⊢
          exact h
        have t6 : Tn w5 (w5.setCell ⟨W.heap.size + 1, 1, none⟩ (.int .u8 v)) [W.heap.size + 1] := (Tn.refl w5 _).st (by simp)
        have S6 := sq_far S5 v5 (show (4 : Nat) ≠ 65535 + 1 from by decide) (by omega) t6
        have R6 := (t6.block _ (by have := t5.size; omega) (by simp)).trans ((t5.block _ (blk_lt HI.out.r) (by simp; omega)).trans HI.out.r)
        have HI6 := Lib.hid (show CI W B b (fun i => nf z (2 * i)) 2 _ from ⟨R6, V6, S6, (HI.out.t.trans t5).over t6 (by intro i hi; simp at hi; left; omega)⟩)
        clear S5 G5 t5 v5 f5 g5 V6 t6 S6 R6
        go_wp2
        go_roundg (4 - 2)
        case measure => omega
        case rel => exact ⟨2, by omega, rfl, by go_num, HI6.out⟩
    · have hz := HZ.out
      have k1 : 4 < z.size := by omega
      have k2 : 5 < z.size := by omega
      have h1 := bt_at z 4 k1
      have h2 := bt_at z 5 k2
      have hn : n2 z 4 = 256 * bt z 4 + bt z 5 := n2_is z 4 (by omega)
      have b1 := bt_lt z 4
      have b2 := bt_lt z 5
      obtain ⟨c, hc⟩ : ∃ c, bt z 4 = c := ⟨_, rfl⟩
      obtain ⟨d, hd⟩ : ∃ c, bt z 5 = c := ⟨_, rfl⟩
      rw [hc] at h1 hn b1
      rw [hd] at h2 hn b2
      have OR := or_low c d (by omega) b2
      have s1 : IntKind.i64.wrap ((c : Int) * 256) = (c : Int) * 256 := by rw [IntKind.wrap_i64]; omega
      have s2 : wrap64 ((c : Int) * 256) = (c : Int) * 256 := IntWalk.wrap64_in _ (by omega)
      have a0 : IntKind.i64.wrap 4 = 4 := by decide
      have a1 : IntKind.i64.wrap 5 = 5 := by decide
      have wc : IntKind.i64.wrap (c : Int) = (c : Int) := by rw [IntKind.wrap_i64]; omega
      have wd : IntKind.i64.wrap (d : Int) = (d : Int) := by rw [IntKind.wrap_i64]; omega
      rw [show ((256 * c + d : Nat) : Int) = 256 * (c : Int) + (d : Int) from by omega] at OR
      have KK := fun u S => KO.out u 4 S
      rw [hn, show ((256 * c + d : Nat) : Int) = 256 * (c : Int) + (d : Int) from by omega] at KK
      obtain ⟨v, hv⟩ : ∃ v, near (256 * (c : Int) + (d : Int)) ((65535 : Nat) : Int) = v := ⟨_, rfl⟩
      rw [hv] at KK
      have KK := Lib.hid (KK _ (HI.out.q.turned (Tn.gb (gb_drew wr none) (S := []) (by simp)) (by simp) (by simp)))
      have HV := Lib.hid (show nf z 4 = v by unfold nf; rw [hn, ← hv]; congr 1)
      have V0 : wr.heap[W.heap.size + 1]? = some (.cells #[.int .u8 (nf z 0), .int .u8 (nf z 2), .int .u8 0, .int .u8 0] 219 (0, 0)) := HI.out.v
      have hlw := blk_lt V0
      have HV0 := Lib.hid V0
      clear V0
      clear hn hc hd hk hv b1 b2
      go_wp2_with fail
      go_region_held3 (fun _ => True) (go_keep)
        (first
          | (go_at_call 160; (with_reducible refine KK.out.mono ?_); rintro e w5 ⟨rfl, S5, G5⟩; have t5 : Tn wr w5 [b] := (Tn.gb (gb_drew wr none) (S := [b]) (by simp)).trans (Tn.gb G5 (by simp)); have v5 := (t5.block _ hlw (by simp; omega)).trans HV0.out; have f5 := blk_free v5 2; have g5 : w5.cell? ⟨W.heap.size + 1, 2, none⟩ = some (.int .u8 0) := blk_cell v5 2))
      all_goals
        have V6 : (w5.setCell ⟨W.heap.size + 1, 2, none⟩ (.int .u8 v)).heap[W.heap.size + 1]? = some (.cells (VK (fun i => nf z (2 * i)) 3) 219 (0, 0)) := by
          have h := blk_set v5 2 (.int .u8 v)
          rw [← HV.out] at h ⊢
          exact h
        have t6 : Tn w5 (w5.setCell ⟨W.heap.size + 1, 2, none⟩ (.int .u8 v)) [W.heap.size + 1] := (Tn.refl w5 _).st (by simp)
        have S6 := sq_far S5 v5 (show (4 : Nat) ≠ 65535 + 1 from by decide) (by omega) t6
        have R6 := (t6.block _ (by have := t5.size; omega) (by simp)).trans ((t5.block _ (blk_lt HI.out.r) (by simp; omega)).trans HI.out.r)
        have HI6 := Lib.hid (show CI W B b (fun i => nf z (2 * i)) 3 _ from ⟨R6, V6, S6, (HI.out.t.trans t5).over t6 (by intro i hi; simp at hi; left; omega)⟩)
        clear S5 G5 t5 v5 f5 g5 V6 t6 S6 R6
        go_wp2
        go_roundg (4 - 3)
        case measure => omega
        case rel => exact ⟨3, by omega, rfl, by go_num, HI6.out⟩
    · have hz := HZ.out
      have k1 : 6 < z.size := by omega
      have k2 : 7 < z.size := by omega
      have h1 := bt_at z 6 k1
      have h2 := bt_at z 7 k2
      have hn : n2 z 6 = 256 * bt z 6 + bt z 7 := n2_is z 6 (by omega)
      have b1 := bt_lt z 6
      have b2 := bt_lt z 7
      obtain ⟨c, hc⟩ : ∃ c, bt z 6 = c := ⟨_, rfl⟩
      obtain ⟨d, hd⟩ : ∃ c, bt z 7 = c := ⟨_, rfl⟩
      rw [hc] at h1 hn b1
      rw [hd] at h2 hn b2
      have OR := or_low c d (by omega) b2
      have s1 : IntKind.i64.wrap ((c : Int) * 256) = (c : Int) * 256 := by rw [IntKind.wrap_i64]; omega
      have s2 : wrap64 ((c : Int) * 256) = (c : Int) * 256 := IntWalk.wrap64_in _ (by omega)
      have a0 : IntKind.i64.wrap 6 = 6 := by decide
      have a1 : IntKind.i64.wrap 7 = 7 := by decide
      have wc : IntKind.i64.wrap (c : Int) = (c : Int) := by rw [IntKind.wrap_i64]; omega
      have wd : IntKind.i64.wrap (d : Int) = (d : Int) := by rw [IntKind.wrap_i64]; omega
      rw [show ((256 * c + d : Nat) : Int) = 256 * (c : Int) + (d : Int) from by omega] at OR
      have KK := fun u S => KO.out u 6 S
      rw [hn, show ((256 * c + d : Nat) : Int) = 256 * (c : Int) + (d : Int) from by omega] at KK
      obtain ⟨v, hv⟩ : ∃ v, near (256 * (c : Int) + (d : Int)) ((65535 : Nat) : Int) = v := ⟨_, rfl⟩
      rw [hv] at KK
      have KK := Lib.hid (KK _ (HI.out.q.turned (Tn.gb (gb_drew wr none) (S := []) (by simp)) (by simp) (by simp)))
      have HV := Lib.hid (show nf z 6 = v by unfold nf; rw [hn, ← hv]; congr 1)
      have V0 : wr.heap[W.heap.size + 1]? = some (.cells #[.int .u8 (nf z 0), .int .u8 (nf z 2), .int .u8 (nf z 4), .int .u8 0] 219 (0, 0)) := HI.out.v
      have hlw := blk_lt V0
      have HV0 := Lib.hid V0
      clear V0
      clear hn hc hd hk hv b1 b2
      go_wp2_with fail
      go_region_held3 (fun _ => True) (go_keep)
        (first
          | (go_at_call 160; (with_reducible refine KK.out.mono ?_); rintro e w5 ⟨rfl, S5, G5⟩; have t5 : Tn wr w5 [b] := (Tn.gb (gb_drew wr none) (S := [b]) (by simp)).trans (Tn.gb G5 (by simp)); have v5 := (t5.block _ hlw (by simp; omega)).trans HV0.out; have f5 := blk_free v5 3; have g5 : w5.cell? ⟨W.heap.size + 1, 3, none⟩ = some (.int .u8 0) := blk_cell v5 3))
      all_goals
        have V6 : (w5.setCell ⟨W.heap.size + 1, 3, none⟩ (.int .u8 v)).heap[W.heap.size + 1]? = some (.cells (VK (fun i => nf z (2 * i)) 4) 219 (0, 0)) := by
          have h := blk_set v5 3 (.int .u8 v)
          rw [← HV.out] at h ⊢
          exact h
        have t6 : Tn w5 (w5.setCell ⟨W.heap.size + 1, 3, none⟩ (.int .u8 v)) [W.heap.size + 1] := (Tn.refl w5 _).st (by simp)
        have S6 := sq_far S5 v5 (show (4 : Nat) ≠ 65535 + 1 from by decide) (by omega) t6
        have R6 := (t6.block _ (by have := t5.size; omega) (by simp)).trans ((t5.block _ (blk_lt HI.out.r) (by simp; omega)).trans HI.out.r)
        have HI6 := Lib.hid (show CI W B b (fun i => nf z (2 * i)) 4 _ from ⟨R6, V6, S6, (HI.out.t.trans t5).over t6 (by intro i hi; simp at hi; left; omega)⟩)
        clear S5 G5 t5 v5 f5 g5 V6 t6 S6 R6
        go_wp2
        go_roundg (4 - 4)
        case measure => omega
        case rel => exact ⟨4, by omega, rfl, by go_num, HI6.out⟩
    · have V : wr.heap[W.heap.size + 1]? = some (.cells #[.int .u8 (nf z 0), .int .u8 (nf z 2), .int .u8 (nf z 4), .int .u8 (nf z 6)] 219 (0, 0)) := HI.out.v
      obtain ⟨y0, e0⟩ : ∃ v, nf z 0 = v := ⟨_, rfl⟩
      obtain ⟨y1, e1⟩ : ∃ v, nf z 2 = v := ⟨_, rfl⟩
      obtain ⟨y2, e2⟩ : ∃ v, nf z 4 = v := ⟨_, rfl⟩
      obtain ⟨y3, e3⟩ : ∃ v, nf z 6 = v := ⟨_, rfl⟩
      have HE := Lib.hid (And.intro e0 (And.intro e1 (And.intro e2 e3)))
      rw [e0, e1, e2, e3] at V
      have R := HI.out.r
      have q0 : wr.cell? ⟨W.heap.size + 1, 0, none⟩ = some (.int .u8 y0) := blk_cell V 0
      have q1 : wr.cell? ⟨W.heap.size + 1, 1, none⟩ = some (.int .u8 y1) := blk_cell V 1
      have q2 : wr.cell? ⟨W.heap.size + 1, 2, none⟩ = some (.int .u8 y2) := blk_cell V 2
      have q3 : wr.cell? ⟨W.heap.size + 1, 3, none⟩ = some (.int .u8 y3) := blk_cell V 3
      have r0 : wr.cell? ⟨W.heap.size, 0, none⟩ = some (.int .u8 0) := blk_cell R 0
      have r1 : wr.cell? ⟨W.heap.size, 1, none⟩ = some (.int .u8 0) := blk_cell R 1
      have r2 : wr.cell? ⟨W.heap.size, 2, none⟩ = some (.int .u8 0) := blk_cell R 2
      have r3 : wr.cell? ⟨W.heap.size, 3, none⟩ = some (.int .u8 0) := blk_cell R 3
      have f0 := blk_free R 0
      have f1 := blk_free R 1
      have f2 := blk_free R 2
      have f3 := blk_free R 3
      have HR := Lib.hid R
      clear hk e0 e1 e2 e3 V R
      go_wp2
      refine bodyPost_ret (v := .agg #[.int .u8 y0, .int .u8 y1, .int .u8 y2, .int .u8 y3]) (by simp only [results, Tryz.results117]; go_simp) rfl ?_
      have t6 : Tn wr ((((wr.setCell ⟨W.heap.size, 0, none⟩ (.int .u8 y0)).setCell ⟨W.heap.size, 1, none⟩ (.int .u8 y1)).setCell ⟨W.heap.size, 2, none⟩ (.int .u8 y2)).setCell ⟨W.heap.size, 3, none⟩ (.int .u8 y3)) [W.heap.size] := ((((Tn.refl wr _).st (by simp)).st (by simp)).st (by simp)).st (by simp)
      refine ⟨by rw [HE.out.1, HE.out.2.1, HE.out.2.2.1, HE.out.2.2.2], sq_far HI.out.q HR.out (show (4 : Nat) ≠ 65535 + 1 from by decide) (by omega) t6, HI.out.t.over t6 (by intro i hi; simp at hi; left; omega)⟩

end Go.Proofs.YtboojlkncbipoaaGreat.Ff
