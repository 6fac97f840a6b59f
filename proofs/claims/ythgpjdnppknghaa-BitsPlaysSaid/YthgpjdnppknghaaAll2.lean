/- Layer 6: the document's bits of a text, all, walked. -/
import Derived.Test.YthgpjdnppknghaaAll
namespace Go.Proofs.Ythgpjdnppknghaa.Bi
open Go.ChangeShapes Go.WideShapes Go.ChangeAt Go.RowKit
open Go.Proofs.Ythgpjdnppknghaa.Le Go.Proofs.Ythgpjdnppknghaa.Sr
set_option linter.unusedVariables false

set_option maxRecDepth 100000 in
set_option maxHeartbeats 2000000 in
theorem all_calls (s : ByteArray) (low : Bool) (W : World) (h1 : s.size ≤ 100) :
    Calls Try.prog 15 #[.string s, .bool low] W fun e w' => ∃ g cap, e = .returned (.slice (some ⟨g, 0, none⟩) (8 * s.size) cap) ∧ w'.ownsRow W.heap.size 3 1 (.slice (some ⟨g, 0, none⟩) (8 * s.size) cap) (8 * s.size) (bl low s (8 * s.size)) ∧ W.grownBy w' none := by
  obtain ⟨i0, hi, hz0, hz1, hz2⟩ := info_parts rowI
  have HI0 := Lib.hid hi
  have HZ0 := Lib.hid hz0
  have HZ1 := Lib.hid hz1
  have HZ2 := Lib.hid hz2
  clear hi hz0 hz1 hz2
  have J0 := Lib.hid (show (W.alloc (.cells #[] 3)).ownsRow W.heap.size 3 1 (.slice (some ⟨W.heap.size, 0, none⟩) 0 0) 0 (bl low s (8 * 0)) ∧ W.grownBy (W.alloc (.cells #[] 3)) none from
    ⟨World.ownsRow_made W #[] 0 (Nat.le_refl _) (by unfold maxLen; omega) (by simp), World.grownBy_alloc _ _ _⟩)
  go_enter Try.func15, Try.ntmps15
  go_wp2
  go_loopg [5, 6] s.size (fun q ov iv wr => ∃ (i : Nat) (o : Value), i ≤ s.size ∧ q = s.size - i ∧ iv = .int .i64 i ∧ o = ov ∧ (i = 0 → ∃ g, o = .slice (some ⟨g, 0, none⟩) 0 0) ∧ wr.ownsRow W.heap.size 3 1 o (8 * i) (bl low s (8 * i)) ∧ W.grownBy wr none)
  case atStart => exact ⟨0, _, Nat.zero_le _, rfl, rfl, rfl, fun _ => ⟨_, rfl⟩, J0.out⟩
  case round =>
    obtain ⟨i, o, hi, rfl, rfl, rfl, hz, I⟩ := hrel
    have HI := Lib.hid I
    have HO := Lib.hid hz
    clear I J0 hz
    by_cases hlt : i < s.size
    · have HB := Lib.hid (fun k hk => bit_byte low s i k hlt hk)
      have hc := s[i].toNat_lt
      have J1 := Lib.hid (show Two W W.heap.size (wr.alloc (.cells #[] 3)) (.slice (some ⟨wr.heap.size, 0, none⟩) 0 0) 0 (lb s[i].toNat 0) o (8 * i) (bl low s (8 * i)) from
        ⟨World.ownsRow_made wr #[] 0 HI.out.2.size (by unfold maxLen; omega) (by simp), HI.out.1.alloc _, fun g hg ho => by
          have := (HI.out.1.lt g ho).2
          simp [Value.ownBlock] at hg
          omega, gb_trans HI.out.2 (World.grownBy_alloc _ _ _), Nat.le_refl _, by have := HI.out.2.size; rw [size_alloc]; omega⟩)
      obtain ⟨c, hcc⟩ : ∃ c, s[i].toNat = c := ⟨_, rfl⟩
      have HC := Lib.hid hcc
      simp only [hcc] at hc J1
      clear HI
      go_wp2
      go_loopg [7, 8, 9] 8 (fun q vv lv kv wr => ∃ (k : Nat) (l : Value), k ≤ 8 ∧ q = 8 - k ∧ kv = .int .i64 k ∧ vv = .int .i64 ((c / 2 ^ k : Nat) : Int) ∧ l = lv ∧ Two W W.heap.size wr l k (lb c k) o (8 * i) (bl low s (8 * i)))
      case atStart => exact ⟨0, _, by omega, rfl, rfl, by simp, rfl, J1.out⟩
      case round =>
        obtain ⟨k, l, hk, rfl, rfl, rfl, rfl, T⟩ := hrel
        have HT := Lib.hid T
        clear T J1
        by_cases hk8 : k < 8
        · obtain ⟨x, hx⟩ : ∃ x, c / 2 ^ k = x := ⟨_, rfl⟩
          have hx2 : c / 2 ^ (k + 1) = x / 2 := by rw [Nat.pow_succ, ← Nat.div_div_eq_div_mul, hx]
          have hlb : lb c (k + 1) = lb c k ++ [Value.int .i64 ((x % 2 : Nat) : Int)] := by rw [lb_succ, hx]
          have hxc : x ≤ c := by rw [← hx]; exact Nat.div_le_self _ _
          obtain ⟨y, hy⟩ : ∃ y, x % 2 = y := ⟨_, rfl⟩
          obtain ⟨z, hz⟩ : ∃ z, x / 2 = z := ⟨_, rfl⟩
          rw [hy] at hlb
          rw [hz] at hx2
          have eM' : ((x : Int)) % 2 = (y : Int) := by omega
          have eM : ((x : Int)).tmod 2 = (y : Int) := by rw [Int.tmod_eq_emod_of_nonneg (by omega)]; omega
          have eD' : ((x : Int)) / 2 = (z : Int) := by omega
          have eD : ((x : Int)).tdiv 2 = (z : Int) := by rw [Int.tdiv_eq_ediv_of_nonneg (by omega)]; omega
          have HX2 := Lib.hid hx2
          have HLB := Lib.hid hlb
          simp only [hx]
          clear hx hx2 hlb hy hz
          go_wp2_with (at_builtin; refine wpList_append_where rfl (.tmp 27) (.tmp 30) 22 rfl W.heap.size 3 i0 (.int .i64 0) 1 8 undI HI0.out HZ0.out HZ1.out HZ2.out rfl (by decide) _ k (lb c k) rfl (HT.out.ra.alloc _) ⟨wr.heap.size, 0, none⟩ 1 1 [.int .i64 (y : Int)] rfl rfl one_news one_int (by unfold maxLen; omega) (by omega) (by have := HT.out.bs; rw [size_alloc]; omega) ?_)
          intro l' w8 hown' hgrow hw
          rw [← HLB.out] at hown'
          have HJ := Lib.hid (HT.out.app hown' hgrow hw)
          clear hown' hgrow hw HT HLB
          go_wp2_with fail
          go_roundg (8 - (k + 1))
          case measure => omega
          case rel => exact ⟨k + 1, _, by omega, rfl, by go_num, by rw [HX2.out], rfl, HJ.out⟩
        · obtain rfl : k = 8 := by omega
          have J2 := Lib.hid HT.out.swap
          obtain ⟨g, cap, hl, -⟩ := eight_at J2.out
          subst hl
          clear HT
          go_wp2
          go_loopg [5, 10] 8 (fun q ov kv wr => ∃ (k : Nat) (o' : Value), k ≤ 8 ∧ q = 8 - k ∧ kv = .int .i64 k ∧ o' = ov ∧ Two W W.heap.size wr o' (8 * i + k) (bl low s (8 * i + k)) (.slice (some ⟨g, 0, none⟩) 8 cap) 8 (lb c 8))
          case atStart => exact ⟨0, _, by omega, rfl, rfl, rfl, J2.out⟩
          case round =>
            obtain ⟨k, o', hk, rfl, rfl, rfl, T⟩ := hrel
            have HT := Lib.hid T
            clear T J2
            by_cases hk8 : k < 8
            · obtain ⟨g', cap', hl, hcells⟩ := eight_at HT.out
              cases hl
              cases low with
              | true =>
                obtain ⟨y, hy⟩ : ∃ y, c / 2 ^ k % 2 = y := ⟨_, rfl⟩
                have hcell := hcells k (by omega)
                have hb : bitAt true s (8 * i + k) = y := by rw [HB.out k hk8, HC.out, ← hy]; rfl
                rw [hy] at hcell
                have hbl : bl true s (8 * i + (k + 1)) = bl true s (8 * i + k) ++ [Value.int .i64 (y : Int)] := by rw [← Nat.add_assoc, bl_succ, hb]
                have HBL := Lib.hid hbl
                clear hy hb hbl hcells
                go_wp2_with (at_builtin; refine wpList_append_where rfl (.tmp 39) (.tmp 44) 22 rfl W.heap.size 3 i0 (.int .i64 0) 1 8 undI HI0.out HZ0.out HZ1.out HZ2.out rfl (by decide) _ (8 * i + k) (bl true s (8 * i + k)) rfl (HT.out.ra.alloc _) ⟨wr.heap.size, 0, none⟩ 1 1 [.int .i64 (y : Int)] rfl rfl one_news one_int (by unfold maxLen; omega) (by omega) (by have := HT.out.bs; rw [size_alloc]; omega) ?_)
                intro o' w8 hown' hgrow hw
                rw [← HBL.out] at hown'
                have HJ := Lib.hid (HT.out.app hown' hgrow hw)
                clear hown' hgrow hw HT HBL
                go_wp2_with fail
                go_roundg (8 - (k + 1))
                case measure => omega
                case rel => exact ⟨k + 1, _, by omega, rfl, by go_num, rfl, HJ.out⟩
              | false =>
                obtain ⟨y, hy⟩ : ∃ y, c / 2 ^ (7 - k) % 2 = y := ⟨_, rfl⟩
                have hcell := hcells (7 - k) (by omega)
                have hb : bitAt false s (8 * i + k) = y := by rw [HB.out k hk8, HC.out, ← hy]; rfl
                rw [hy] at hcell
                have hbl : bl false s (8 * i + (k + 1)) = bl false s (8 * i + k) ++ [Value.int .i64 (y : Int)] := by rw [← Nat.add_assoc, bl_succ, hb]
                have HBL := Lib.hid hbl
                clear hy hb hbl hcells
                have e7 : (7 : Int) - (k : Int) = ((7 - k : Nat) : Int) := by omega
                obtain ⟨m, hm⟩ : ∃ m, 7 - k = m := ⟨_, rfl⟩
                rw [hm] at hcell e7
                have hm8 : m < 8 := by omega
                clear hm
                go_wp2_with (at_builtin; refine wpList_append_where rfl (.tmp 46) (.tmp 52) 22 rfl W.heap.size 3 i0 (.int .i64 0) 1 8 undI HI0.out HZ0.out HZ1.out HZ2.out rfl (by decide) _ (8 * i + k) (bl false s (8 * i + k)) rfl (HT.out.ra.alloc _) ⟨wr.heap.size, 0, none⟩ 1 1 [.int .i64 (y : Int)] rfl rfl one_news one_int (by unfold maxLen; omega) (by omega) (by have := HT.out.bs; rw [size_alloc]; omega) ?_)
                intro o' w8 hown' hgrow hw
                rw [← HBL.out] at hown'
                have HJ := Lib.hid (HT.out.app hown' hgrow hw)
                clear hown' hgrow hw HT HBL
                go_wp2_with fail
                go_roundg (8 - (k + 1))
                case measure => omega
                case rel => exact ⟨k + 1, _, by omega, rfl, by go_num, rfl, HJ.out⟩
            · obtain rfl : k = 8 := by omega
              go_wp2_with fail
              go_roundg (s.size - (i + 1))
              case measure => omega
              case rel => exact ⟨i + 1, _, by omega, rfl, by go_num, rfl, fun h => absurd h (by omega), by rw [show 8 * (i + 1) = 8 * i + 8 from by omega]; exact HT.out.ra, HT.out.own⟩
    · obtain rfl : i = s.size := by omega
      obtain ⟨g, cap, hv⟩ : ∃ g cap, o = .slice (some ⟨g, 0, none⟩) (8 * s.size) cap := by
        rcases row_at HI.out.1 with ⟨hv, hk⟩ | ⟨g, cap, hv, -⟩
        · obtain ⟨g, hg⟩ := HO.out (by omega)
          rw [hg] at hv
          cases hv
        · exact ⟨g, cap, hv⟩
      subst hv
      go_wp2
      go_ret
      exact ⟨g, cap, rfl, HI.out⟩

end Go.Proofs.Ythgpjdnppknghaa.Bi
