/- Layer 30: the document's Named (written by wip/gen/sn8.py). -/
import Derived.Test.YtfhcefglefkakaaDoorSn8
import Derived.Deep.LoopGhost
import Derived.BigRegion
import Derived.Deep.QuietTactic
import Derived.BigQuiet
namespace Go.Proofs.YtfhcefglefkakaaDoor.Sn
open Go.ChangeShapes Go.WideShapes Go.ChangeAt Go.RowKit
open Go.Proofs.YtfhcefglefkakaaDoor.Le Go.Proofs.YtfhcefglefkakaaDoor.Tk
set_option linter.unusedVariables false

/-- The document's list of endings. -/
def nmR : Nat → List UInt8
  | 0 => [98, 109, 112]
  | 1 => [100, 105, 98]
  | 2 => [116, 103, 97]
  | 3 => [112, 112, 109]
  | 4 => [112, 98, 109]
  | 5 => [112, 103, 109]
  | 6 => [112, 110, 109]
  | 7 => [105, 99, 111]
  | 8 => [99, 117, 114]
  | 9 => [113, 111, 105]
  | 10 => [102, 102]
  | 11 => [112, 99, 120]
  | 12 => [114, 97, 115]
  | 13 => [115, 117, 110]
  | _ => []
def fmR : Nat → Nat
  | 0 => 1
  | 1 => 1
  | 2 => 2
  | 3 => 3
  | 4 => 3
  | 5 => 3
  | 6 => 3
  | 7 => 4
  | 8 => 4
  | 9 => 5
  | 10 => 6
  | 11 => 7
  | 12 => 8
  | 13 => 8
  | _ => 0
theorem look_hit (i : Nat) (h : i < 14) : look (nmR i) 14 = fmR i := by
  obtain rfl | rfl | rfl | rfl | rfl | rfl | rfl | rfl | rfl | rfl | rfl | rfl | rfl | rfl : i = 0 ∨ i = 1 ∨ i = 2 ∨ i = 3 ∨ i = 4 ∨ i = 5 ∨ i = 6 ∨ i = 7 ∨ i = 8 ∨ i = 9 ∨ i = 10 ∨ i = 11 ∨ i = 12 ∨ i = 13 := by omega
  all_goals decide
theorem look_miss (l : List UInt8) (h : ∀ i, i < 14 → nmR i ≠ l) : look l 14 = 0 := by
  have h0 : l ≠ nmR 0 := fun e => h 0 (by decide) e.symm
  have h1 : l ≠ nmR 1 := fun e => h 1 (by decide) e.symm
  have h2 : l ≠ nmR 2 := fun e => h 2 (by decide) e.symm
  have h3 : l ≠ nmR 3 := fun e => h 3 (by decide) e.symm
  have h4 : l ≠ nmR 4 := fun e => h 4 (by decide) e.symm
  have h5 : l ≠ nmR 5 := fun e => h 5 (by decide) e.symm
  have h6 : l ≠ nmR 6 := fun e => h 6 (by decide) e.symm
  have h7 : l ≠ nmR 7 := fun e => h 7 (by decide) e.symm
  have h8 : l ≠ nmR 8 := fun e => h 8 (by decide) e.symm
  have h9 : l ≠ nmR 9 := fun e => h 9 (by decide) e.symm
  have h10 : l ≠ nmR 10 := fun e => h 10 (by decide) e.symm
  have h11 : l ≠ nmR 11 := fun e => h 11 (by decide) e.symm
  have h12 : l ≠ nmR 12 := fun e => h 12 (by decide) e.symm
  have h13 : l ≠ nmR 13 := fun e => h 13 (by decide) e.symm
  simp only [nmR] at h0 h1 h2 h3 h4 h5 h6 h7 h8 h9 h10 h11 h12 h13
  simp [look, kvs, *]

theorem nc_at (i : Nat) (h : i < 14) : (#[.string ⟨#[98, 109, 112]⟩, .string ⟨#[100, 105, 98]⟩, .string ⟨#[116, 103, 97]⟩, .string ⟨#[112, 112, 109]⟩, .string ⟨#[112, 98, 109]⟩, .string ⟨#[112, 103, 109]⟩, .string ⟨#[112, 110, 109]⟩, .string ⟨#[105, 99, 111]⟩, .string ⟨#[99, 117, 114]⟩, .string ⟨#[113, 111, 105]⟩, .string ⟨#[102, 102]⟩, .string ⟨#[112, 99, 120]⟩, .string ⟨#[114, 97, 115]⟩, .string ⟨#[115, 117, 110]⟩] : Array Value)[i]? = some (.string ⟨(nmR i).toArray⟩) := by
  obtain rfl | rfl | rfl | rfl | rfl | rfl | rfl | rfl | rfl | rfl | rfl | rfl | rfl | rfl : i = 0 ∨ i = 1 ∨ i = 2 ∨ i = 3 ∨ i = 4 ∨ i = 5 ∨ i = 6 ∨ i = 7 ∨ i = 8 ∨ i = 9 ∨ i = 10 ∨ i = 11 ∨ i = 12 ∨ i = 13 := by omega
  all_goals rfl
theorem fc_at (i : Nat) (h : i < 14) : (#[.int .i64 1, .int .i64 1, .int .i64 2, .int .i64 3, .int .i64 3, .int .i64 3, .int .i64 3, .int .i64 4, .int .i64 4, .int .i64 5, .int .i64 6, .int .i64 7, .int .i64 8, .int .i64 8] : Array Value)[i]? = some (.int .i64 (fmR i : Nat)) := by
  obtain rfl | rfl | rfl | rfl | rfl | rfl | rfl | rfl | rfl | rfl | rfl | rfl | rfl | rfl : i = 0 ∨ i = 1 ∨ i = 2 ∨ i = 3 ∨ i = 4 ∨ i = 5 ∨ i = 6 ∨ i = 7 ∨ i = 8 ∨ i = 9 ∨ i = 10 ∨ i = 11 ∨ i = 12 ∨ i = 13 := by omega
  all_goals rfl
/-- The first k bytes behind place a, as small letters. -/
def lowL (s : ByteArray) (a k : Nat) : List UInt8 := ((s.data.toList.drop a).take k).map fun b => UInt8.ofNat (lowB b.toNat)
theorem lowL_next (s : ByteArray) (a k : Nat) (h : a + k < s.size) : lowL s a (k + 1) = lowL s a k ++ [UInt8.ofNat (lowB (bt s (a + k)))] := by
  unfold lowL bt
  have hl : a + k < s.data.toList.length := by rw [← Lib.size_eq]; exact h
  rw [List.take_add_one, List.map_append, List.getElem?_drop, List.getElem?_eq_getElem hl, List.getD_eq_getElem?_getD, List.getElem?_eq_getElem hl]
  rfl
theorem lowL_all (s : ByteArray) (a : Nat) : (lowT (s.extract a s.size)).data.toList = lowL s a (s.size - a) := by
  unfold lowT lowL
  rw [Lib.extract_data]

set_option maxRecDepth 100000 in
set_option maxHeartbeats 4000000 in
theorem rnamed_calls (s : ByteArray) (hs : s.size ≤ 1000) (W : World) : Calls Tryd.prog 14 #[.string s] W fun e w' => e = .returned (.int .i64 (nm s : Nat)) ∧ W.grownBy w' none := by
  obtain ⟨D, hD⟩ : ∃ D, ldot s s.size = D := ⟨_, rfl⟩
  have hDb := ldot_bd s s.size
  rw [hD] at hDb
  have HD := Lib.hid hD
  have HS := Lib.hid hs
  clear hD hs
  go_enter Tryd.func14, Tryd.ntmps14
  go_wp2_with fail
  go_loopg [3, 4] (s.size + 1) (fun q av iv wr => ∃ k : Nat, k ≤ s.size ∧ q = s.size + 1 - k ∧ av = .int .i64 (ldot s k) ∧ iv = .int .i64 k ∧ W = wr)
  case atStart => exact ⟨0, Nat.zero_le _, rfl, rfl, rfl, rfl⟩
  case round =>
    obtain ⟨k, hk, rfl, rfl, rfl, rfl⟩ := hrel
    by_cases hlt : k < s.size
    · have e1 : decide ((k : Int) < (s.size : Int)) = true := decide_eq_true (by omega)
      have c0 := bt_cell s k hlt rfl
      obtain ⟨c, hc⟩ : ∃ c, bt s k = c := ⟨_, rfl⟩
      rw [hc] at c0
      have hSS := HS.out
      by_cases h46 : c = 46
      · have HE := Lib.hid (show ldot s (k + 1) = k from by unfold ldot; rw [if_pos (by rw [hc]; exact h46)])
        subst h46
        clear hc
        go_wp2
        go_roundg (s.size + 1 - (k + 1))
        case measure => omega
        case rel => exact ⟨k + 1, by omega, rfl, by rw [HE.out], by go_num, rfl⟩
      · have e2 : ((c : Int) == 46) = false := by rw [beq_eq_false_iff_ne]; omega
        have e2' : ¬ (c : Int) = 46 := by omega
        have HE := Lib.hid (show ldot s (k + 1) = ldot s k from by conv => lhs; unfold ldot; rw [if_neg (by rw [hc]; exact h46)])
        clear hc h46
        go_wp2
        go_roundg (s.size + 1 - (k + 1))
        case measure => omega
        case rel => exact ⟨k + 1, by omega, rfl, by rw [HE.out], by go_num, rfl⟩
    · obtain rfl : k = s.size := by omega
      have e1 : decide ((s.size : Int) < (s.size : Int)) = false := decide_eq_false (by omega)
      rw [HD.out]
      by_cases hneg : D < 0
      · have e2 : decide (D < (0 : Int)) = true := decide_eq_true hneg
        have HN := Lib.hid (show nm s = 0 from by unfold nm; rw [HD.out, if_pos hneg])
        clear hneg hDb
        go_wp2
        go_ret
        exact ⟨by rw [HN.out]; rfl, grf _ _⟩
      · have e2 : decide (D < (0 : Int)) = false := decide_eq_false hneg
        obtain ⟨d, rfl⟩ : ∃ d : Nat, D = d := ⟨D.toNat, by omega⟩
        have hds : d + 1 ≤ s.size := by omega
        have HN := Lib.hid (show nm s = look (lowL s (d + 1) (s.size - (d + 1))) 14 from by unfold nm endOf; rw [HD.out, if_neg hneg, ← lowL_all]; rfl)
        have HY0 := Lib.hid (YB.start W)
        have hSS := HS.out
        clear hneg hDb
        go_wp2_with fail
        generalize W.alloc (.cells #[] 5) = w0 at HY0 ⊢
        generalize W.heap.size = gb at HY0 ⊢
        go_loopg [5, 6] (s.size + 1) (fun q tv iv w2 => ∃ k : Nat, d + 1 + k ≤ s.size ∧ q = s.size + 1 - k ∧ iv = .int .i64 ((d + 1 + k : Nat) : Nat) ∧ YB W w2 tv (lowL s (d + 1) k))
        case atStart => exact ⟨0, by omega, rfl, rfl, HY0.out⟩
        case round =>
          obtain ⟨k, hk, rfl, rfl, HB⟩ := hrel
          have HB := Lib.hid HB
          clear HY0
          have hsz := HS.out
          by_cases hlt : d + 1 + k < s.size
          · have hnx := lowL_next s (d + 1) k hlt
            have hln : (lowL s (d + 1) k).length = k := by unfold lowL; rw [List.length_map, List.length_take, List.length_drop, ← Lib.size_eq]; omega
            obtain ⟨i, hi⟩ : ∃ i, d + 1 + k = i := ⟨_, rfl⟩
            rw [hi] at hlt hk hnx ⊢
            have e3 : decide ((i : Int) < (s.size : Int)) = true := decide_eq_true (by omega)
            have c1 := bt_cell s i hlt rfl
            have h256 := bt_lt s i
            obtain ⟨c, hc⟩ : ∃ c, bt s i = c := ⟨_, rfl⟩
            rw [hc] at c1 h256
            obtain ⟨y, hy⟩ : ∃ y : UInt8, UInt8.ofNat (lowB c) = y := ⟨_, rfl⟩
            have hyn : y.toNat = lowB c := by rw [← hy, UInt8.toNat_ofNat']; have := lowB_lt h256; omega
            have HNX := Lib.hid (show lowL s (d + 1) (k + 1) = lowL s (d + 1) k ++ [y] from by rw [hnx, hc, hy])
            have HI := Lib.hid hi
            obtain ⟨L, hL⟩ : ∃ L, lowL s (d + 1) k = L := ⟨_, rfl⟩
            rw [hL] at HNX HB hln
            have HLN := Lib.hid hln
            clear hc hy hi hL hln hnx
            by_cases hu : 65 ≤ c ∧ c ≤ 90
            · have e4 : decide ((65 : Int) ≤ (c : Int)) = true := decide_eq_true (by omega)
              have e5 : decide ((c : Int) ≤ 90) = true := decide_eq_true (by omega)
              unfold lowB at hyn
              rw [if_pos hu] at hyn
              have w2 : IntKind.u8.wrap ((c : Int) + 32) = ((y.toNat : Nat) : Int) := by rw [hyn]; simp [IntKind.wrap, IntKind.signed, IntKind.bits]; omega
              clear hu hyn
              go_wp2_with (at_builtin; refine YB.app [y] 1 HB.out rfl rfl (by decide) (by have h1 := HLN.out; have h2 := HI.out; omega) rfl rfl rfl rfl ?_; intro t3 w3 HB3; obtain ⟨g3, c3, rfl⟩ := HB3.sh; have HB3 := Lib.hid HB3)
              go_roundg (s.size + 1 - (k + 1))
              case measure =>
                have := HI.out
                omega
              case rel => exact ⟨k + 1, by have := HI.out; omega, rfl, by have := HI.out; rw [show d + 1 + (k + 1) = i + 1 by omega]; go_num, by rw [HNX.out]; have h := HB3.out; rw [List.length_append] at h; exact h⟩
            · have hyc : y.toNat = c := by rw [hyn]; unfold lowB; rw [if_neg hu]
              have e4 : (decide ((65 : Int) ≤ (c : Int)) = false) ∨ (decide ((65 : Int) ≤ (c : Int)) = true ∧ decide ((c : Int) ≤ 90) = false) := by
                by_cases h1 : 65 ≤ c
                · exact .inr ⟨decide_eq_true (by omega), decide_eq_false (by omega)⟩
                · exact .inl (decide_eq_false (by omega))
              have HYC := Lib.hid hyc
              clear hu hyn hyc
              rcases e4 with e4 | ⟨e4, e5⟩
              all_goals
                go_wp2_with (at_builtin; refine YB.app [y] 1 HB.out (by show _ = #[Value.int IntKind.u8 ((y.toNat : Nat) : Int)]; rw [HYC.out]) rfl (by decide) (by have h1 := HLN.out; have h2 := HI.out; omega) rfl rfl rfl rfl ?_; intro t3 w3 HB3; obtain ⟨g3, c3, rfl⟩ := HB3.sh; have HB3 := Lib.hid HB3)
                go_roundg (s.size + 1 - (k + 1))
                case measure =>
                  have := HI.out
                  omega
                case rel => exact ⟨k + 1, by have := HI.out; omega, rfl, by have := HI.out; rw [show d + 1 + (k + 1) = i + 1 by omega]; go_num, by rw [HNX.out]; have h := HB3.out; rw [List.length_append] at h; exact h⟩
          · obtain rfl : k = s.size - (d + 1) := by omega
            obtain ⟨i, hi⟩ : ∃ i, d + 1 + (s.size - (d + 1)) = i := ⟨_, rfl⟩
            rw [hi]
            obtain rfl : i = s.size := by omega
            obtain ⟨L, hL⟩ : ∃ L, lowL s (d + 1) (s.size - (d + 1)) = L := ⟨_, rfl⟩
            rw [hL] at HB HN
            clear hi hL hk hlt
            obtain ⟨gq, cq, hsh⟩ := HB.out.sh
            subst hsh
            have hN : ((wr.alloc (.cells #[.string ⟨#[98, 109, 112]⟩, .string ⟨#[100, 105, 98]⟩, .string ⟨#[116, 103, 97]⟩, .string ⟨#[112, 112, 109]⟩, .string ⟨#[112, 98, 109]⟩, .string ⟨#[112, 103, 109]⟩, .string ⟨#[112, 110, 109]⟩, .string ⟨#[105, 99, 111]⟩, .string ⟨#[99, 117, 114]⟩, .string ⟨#[113, 111, 105]⟩, .string ⟨#[102, 102]⟩, .string ⟨#[112, 99, 120]⟩, .string ⟨#[114, 97, 115]⟩, .string ⟨#[115, 117, 110]⟩] 9)).alloc (.cells #[.int .i64 1, .int .i64 1, .int .i64 2, .int .i64 3, .int .i64 3, .int .i64 3, .int .i64 3, .int .i64 4, .int .i64 4, .int .i64 5, .int .i64 6, .int .i64 7, .int .i64 8, .int .i64 8] 3)).heap[wr.heap.size]? = some (.cells #[.string ⟨#[98, 109, 112]⟩, .string ⟨#[100, 105, 98]⟩, .string ⟨#[116, 103, 97]⟩, .string ⟨#[112, 112, 109]⟩, .string ⟨#[112, 98, 109]⟩, .string ⟨#[112, 103, 109]⟩, .string ⟨#[112, 110, 109]⟩, .string ⟨#[105, 99, 111]⟩, .string ⟨#[99, 117, 114]⟩, .string ⟨#[113, 111, 105]⟩, .string ⟨#[102, 102]⟩, .string ⟨#[112, 99, 120]⟩, .string ⟨#[114, 97, 115]⟩, .string ⟨#[115, 117, 110]⟩] 9 (0, 0)) := blk_al blk_at _
            have hF : ((wr.alloc (.cells #[.string ⟨#[98, 109, 112]⟩, .string ⟨#[100, 105, 98]⟩, .string ⟨#[116, 103, 97]⟩, .string ⟨#[112, 112, 109]⟩, .string ⟨#[112, 98, 109]⟩, .string ⟨#[112, 103, 109]⟩, .string ⟨#[112, 110, 109]⟩, .string ⟨#[105, 99, 111]⟩, .string ⟨#[99, 117, 114]⟩, .string ⟨#[113, 111, 105]⟩, .string ⟨#[102, 102]⟩, .string ⟨#[112, 99, 120]⟩, .string ⟨#[114, 97, 115]⟩, .string ⟨#[115, 117, 110]⟩] 9)).alloc (.cells #[.int .i64 1, .int .i64 1, .int .i64 2, .int .i64 3, .int .i64 3, .int .i64 3, .int .i64 3, .int .i64 4, .int .i64 4, .int .i64 5, .int .i64 6, .int .i64 7, .int .i64 8, .int .i64 8] 3)).heap[wr.heap.size + 1]? = some (.cells #[.int .i64 1, .int .i64 1, .int .i64 2, .int .i64 3, .int .i64 3, .int .i64 3, .int .i64 3, .int .i64 4, .int .i64 4, .int .i64 5, .int .i64 6, .int .i64 7, .int .i64 8, .int .i64 8] 3 (0, 0)) := by
              rw [← size_alloc wr (.cells #[.string ⟨#[98, 109, 112]⟩, .string ⟨#[100, 105, 98]⟩, .string ⟨#[116, 103, 97]⟩, .string ⟨#[112, 112, 109]⟩, .string ⟨#[112, 98, 109]⟩, .string ⟨#[112, 103, 109]⟩, .string ⟨#[112, 110, 109]⟩, .string ⟨#[105, 99, 111]⟩, .string ⟨#[99, 117, 114]⟩, .string ⟨#[113, 111, 105]⟩, .string ⟨#[102, 102]⟩, .string ⟨#[112, 99, 120]⟩, .string ⟨#[114, 97, 115]⟩, .string ⟨#[115, 117, 110]⟩] 9)]
              exact blk_at
            have HB2 := Lib.hid (HB.out.gb (gb_trans (World.grownBy_alloc wr (.cells #[.string ⟨#[98, 109, 112]⟩, .string ⟨#[100, 105, 98]⟩, .string ⟨#[116, 103, 97]⟩, .string ⟨#[112, 112, 109]⟩, .string ⟨#[112, 98, 109]⟩, .string ⟨#[112, 103, 109]⟩, .string ⟨#[112, 110, 109]⟩, .string ⟨#[105, 99, 111]⟩, .string ⟨#[99, 117, 114]⟩, .string ⟨#[113, 111, 105]⟩, .string ⟨#[102, 102]⟩, .string ⟨#[112, 99, 120]⟩, .string ⟨#[114, 97, 115]⟩, .string ⟨#[115, 117, 110]⟩] 9) none) (World.grownBy_alloc _ (.cells #[.int .i64 1, .int .i64 1, .int .i64 2, .int .i64 3, .int .i64 3, .int .i64 3, .int .i64 3, .int .i64 4, .int .i64 4, .int .i64 5, .int .i64 6, .int .i64 7, .int .i64 8, .int .i64 8] 3) none)))
            go_wp2_with fail
            generalize (wr.alloc (.cells #[.string ⟨#[98, 109, 112]⟩, .string ⟨#[100, 105, 98]⟩, .string ⟨#[116, 103, 97]⟩, .string ⟨#[112, 112, 109]⟩, .string ⟨#[112, 98, 109]⟩, .string ⟨#[112, 103, 109]⟩, .string ⟨#[112, 110, 109]⟩, .string ⟨#[105, 99, 111]⟩, .string ⟨#[99, 117, 114]⟩, .string ⟨#[113, 111, 105]⟩, .string ⟨#[102, 102]⟩, .string ⟨#[112, 99, 120]⟩, .string ⟨#[114, 97, 115]⟩, .string ⟨#[115, 117, 110]⟩] 9)).alloc (.cells #[.int .i64 1, .int .i64 1, .int .i64 2, .int .i64 3, .int .i64 3, .int .i64 3, .int .i64 3, .int .i64 4, .int .i64 4, .int .i64 5, .int .i64 6, .int .i64 7, .int .i64 8, .int .i64 8] 3) = w5 at hN hF HB2 ⊢
            generalize wr.heap.size = nb at hN hF ⊢
            have HC5 := Lib.hid (And.intro hN hF)
            clear hN hF HB
            go_loopg [10] 15 (fun q iv w6 => ∃ i : Nat, i ≤ 14 ∧ q = 15 - i ∧ iv = .int .i64 i ∧ (∀ j, j < i → nmR j ≠ L) ∧ (w6.heap[nb]? = some (.cells #[.string ⟨#[98, 109, 112]⟩, .string ⟨#[100, 105, 98]⟩, .string ⟨#[116, 103, 97]⟩, .string ⟨#[112, 112, 109]⟩, .string ⟨#[112, 98, 109]⟩, .string ⟨#[112, 103, 109]⟩, .string ⟨#[112, 110, 109]⟩, .string ⟨#[105, 99, 111]⟩, .string ⟨#[99, 117, 114]⟩, .string ⟨#[113, 111, 105]⟩, .string ⟨#[102, 102]⟩, .string ⟨#[112, 99, 120]⟩, .string ⟨#[114, 97, 115]⟩, .string ⟨#[115, 117, 110]⟩] 9 (0, 0)) ∧ w6.heap[nb + 1]? = some (.cells #[.int .i64 1, .int .i64 1, .int .i64 2, .int .i64 3, .int .i64 3, .int .i64 3, .int .i64 3, .int .i64 4, .int .i64 4, .int .i64 5, .int .i64 6, .int .i64 7, .int .i64 8, .int .i64 8] 3 (0, 0))) ∧ YB W w6 (.slice (some ⟨gq, 0, none⟩) L.length cq) L)
            case atStart => exact ⟨0, by omega, rfl, rfl, fun j hj => by omega, HC5.out, HB2.out⟩
            case round =>
              obtain ⟨i, hi, rfl, rfl, hno, ⟨hN, hF⟩, HB⟩ := hrel
              have HB := Lib.hid HB
              have HNO := Lib.hid hno
              clear HC5 HB2 hno
              by_cases hlt : i < 14
              · have e6 : decide ((i : Int) < 14) = true := decide_eq_true (by omega)
                have c0 := (blk_cell hN i).trans (nc_at i hlt)
                have c1 := (blk_cell hF i).trans (fc_at i hlt)
                have hcv0 := HB.out.conv
                have hcv1 := (HB.out.gb (gb_drew wr none)).conv
                have HC := Lib.hid (And.intro hN hF)
                clear hN hF
                obtain ⟨z, hz⟩ : ∃ z : ByteArray, ⟨L.toArray⟩ = z := ⟨_, rfl⟩
                obtain ⟨x, hx⟩ : ∃ x : ByteArray, ⟨(nmR i).toArray⟩ = x := ⟨_, rfl⟩
                rw [hz] at hcv0 hcv1
                rw [hx] at c0
                by_cases hxz : nmR i = L
                · have hb : (x.toList == z.toList) = true := by rw [← hx, ← hz, hxz]; simp
                  have HE := Lib.hid (show nm s = fmR i from by rw [HN.out, ← hxz, look_hit i hlt])
                  clear hz hx hxz
                  go_wp2_with fail
                  go_region
                  go_wp2
                  go_ret
                  exact ⟨by rw [HE.out]; rfl, gb_trans HB.out.g (gb_drew _ _)⟩
                · have hb : (x.toList == z.toList) = false := by
                    rw [← hx, ← hz]
                    rw [beq_eq_false_iff_ne]
                    intro e
                    rw [ByteArray.toList_eq, ByteArray.toList_eq] at e
                    exact hxz (by simpa using e)
                  have HNO2 := Lib.hid (show ∀ j, j < i + 1 → nmR j ≠ L from fun j hj => by
                    by_cases e : j = i
                    · rw [e]; exact hxz
                    · exact HNO.out j (by omega))
                  clear hz hx hxz
                  go_wp2_with fail
                  go_region
                  go_wp2
                  go_roundg (15 - (i + 1))
                  case measure => omega
                  case rel => exact ⟨i + 1, by omega, rfl, by go_num, HNO2.out, HC.out, HB.out.gb (gb_drew _ _)⟩
              · obtain rfl : i = 14 := by omega
                have HE := Lib.hid (show nm s = 0 from by rw [HN.out, look_miss L HNO.out])
                go_wp2
                go_ret
                exact ⟨by rw [HE.out]; rfl, HB.out.g⟩

end Go.Proofs.YtfhcefglefkakaaDoor.Sn
