/- Texts of one kind, one behind the other: Fw1. -/
import Derived.Deep.Cut
import Derived.Deep.LoopGhost
import Derived.Deep.RegionHeld3
import Derived.Test.YtboojlkncbipoaaGreatG22
import Derived.Test.YtboojlkncbipoaaGreatG31
import Derived.Test.YtboojlkncbipoaaGreatG33
/- Layer 27: the code's Write. -/
namespace Go.Proofs.YtboojlkncbipoaaGreat.Fw
open Go.ChangeShapes Go.WideShapes Go.ChangeAt Go.RowKit
open Go.Proofs.YtboojlkncbipoaaGreat.Le Go.Proofs.YtboojlkncbipoaaGreat.Ra Go.Proofs.YtboojlkncbipoaaGreat.Bd Go.Proofs.YtboojlkncbipoaaGreat.Am
set_option linter.unusedVariables false

/-- Each byte twice. -/
def dup : List UInt8 → List UInt8
  | [] => []
  | b :: l => b :: b :: dup l
theorem dup_len : ∀ l, (dup l).length = 2 * l.length
  | [] => rfl
  | b :: l => by simp [dup, dup_len l]; omega
theorem dup_app : ∀ (l : List UInt8) (c : UInt8), dup (l ++ [c]) = dup l ++ [c] ++ [c]
  | [], c => rfl
  | b :: l, c => by simp [dup, dup_app l c]
/-- The sign. -/
def ffS : ByteArray := { data := #[102, 97, 114, 98, 102, 101, 108, 100] }
/-- What has been written behind k bytes of the pixels. -/
def ffL (X Y : Nat) (S : ByteArray) (k : Nat) : List UInt8 := hdL ffS X Y 2 ++ dup (S.data.toList.take k)
def ffT (X Y : Nat) (S : ByteArray) : ByteArray := ⟨(ffL X Y S S.size).toArray⟩
theorem ffL_len (X Y : Nat) (S : ByteArray) (k : Nat) (hk : k ≤ S.size) : (ffL X Y S k).length = 16 + 2 * k := by
  unfold ffL
  rw [List.length_append, dup_len, List.length_take]
  have h1 : (hdL ffS X Y 2).length = 16 := by simp [hdL, ffS, b4]
  have h2 : S.data.toList.length = S.size := rfl
  rw [h1]; omega
theorem ffL_next (X Y : Nat) (S : ByteArray) (k : Nat) (hk : k < S.size) : ffL X Y S (k + 1) = ffL X Y S k ++ [S[k]] ++ [S[k]] := by
  unfold ffL
  have h2 : k < S.data.toList.length := hk
  rw [List.take_succ_eq_append_getElem h2, dup_app]
  simp [List.append_assoc]
  rfl

set_option maxRecDepth 100000 in
set_option maxHeartbeats 1000000 in
theorem write_wrong (X Y : Int) (a : Option Addr) (n c : Nat) (W : World) (hn : n ≤ 9223372036854775807) (hr : rightB X Y n = false) :
    Calls Tryz.prog 35 #[.agg #[.int .i64 X, .int .i64 Y, .slice a n c]] W fun e w' => e = .returned (.tuple #[.string ⟨#[]⟩, .int .i64 11]) ∧ W.grownBy w' none := by
  have KR := Lib.hid (fun w => right_calls X Y a n c w hn)
  rw [hr] at KR
  clear hr
  go_enter Tryz.func35, Tryz.ntmps35
  go_wp2_with fail
  refine (KR.out _).mono ?_
  rintro e w1 ⟨rfl, g1⟩
  have HG := Lib.hid (gb_trans (World.grownBy_alloc W _ none) g1)
  clear g1
  go_wp2
  go_ret2
  exact ⟨rfl, HG.out⟩

set_option maxRecDepth 100000 in
set_option maxHeartbeats 1000000 in
theorem write_good (X Y : Nat) (a : Option Addr) (c : Nat) (S : ByteArray) (W : World) (hB : Bx a S W) (hs : S.size ≤ 2000) (hX : X ≤ 100000) (hY : Y ≤ 100000) (h1 : 1 ≤ S.size) (hr : rightB X Y S.size = true) :
    Calls Tryz.prog 35 #[.agg #[.int .i64 X, .int .i64 Y, .slice a S.size c]] W fun e w' => e = .returned (.tuple #[.string (ffT X Y S), .int .i64 0]) ∧ W.grownBy w' none := by
  obtain ⟨n, hn⟩ : ∃ n, S.size = n := ⟨_, rfl⟩
  have KR := Lib.hid (fun w => right_calls X Y a n c w (by omega))
  rw [hn] at hr hs h1 ⊢
  rw [hr] at KR
  have HN := Lib.hid hn
  have HS := Lib.hid hs
  obtain ⟨bk, off, rfl, hC⟩ : ∃ b off, a = some ⟨b, off, none⟩ ∧ Lib.Bytes W b off S := hB.resolve_left (by omega)
  have HC := Lib.hid hC
  have hsf : ffS.size ≤ 900 := by decide
  have KH0 : ∀ u : World, Calls Tryz.prog 68 #[.string ffS, .slice (some ⟨u.heap.size, 0, none⟩) 2 2] (u.alloc (.cells #[.int .i64 (X : Nat), .int .i64 (Y : Nat)] 3)) (fun e w' => e = .returned (.string (hdT ffS X Y)) ∧ (u.alloc (.cells #[.int .i64 (X : Nat), .int .i64 (Y : Nat)] 3)).grownBy w' none) := by
    intro u
    have hq := blk_at (w := u) (o := .cells #[.int .i64 (X : Nat), .int .i64 (Y : Nat)] 3)
    generalize u.alloc (.cells #[.int .i64 (X : Nat), .int .i64 (Y : Nat)] 3) = v at hq ⊢
    exact bytes_two ffS hsf X Y u.heap.size hX hY v hq
  obtain ⟨H, hH⟩ : ∃ H, hdT ffS X Y = H := ⟨_, rfl⟩
  simp only [hH] at KH0
  unfold ffS at KH0
  have KH := Lib.hid KH0
  have HH := Lib.hid hH
  clear hH KH0 hsf
  clear hr hs h1 hn hC hX hY hB
  go_enter Tryz.func35, Tryz.ntmps35
  go_wp2_with fail
  refine (KR.out _).mono ?_
  rintro e w1 ⟨rfl, g1⟩
  have HG := Lib.hid (gb_trans (World.grownBy_alloc W _ none) g1)
  have HI := Lib.hid ((g1.block W.heap.size (by rw [size_alloc]; omega) (by simp)).trans (blk_at (w := W)))
  clear g1 KR
  obtain ⟨i0, hi0⟩ : ∃ i, W.heap.size = i := ⟨_, rfl⟩
  rw [hi0] at HI
  have HI0 := Lib.hid hi0
  obtain ⟨b, hb⟩ : ∃ b, w1.heap.size = b := ⟨_, rfl⟩
  have HBW := Lib.hid (show W.heap.size ≤ b from hb ▸ HG.out.size)
  have hib : i0 < b := by have := blk_lt HI.out; rw [hb] at this; exact this
  have HBB := Lib.hid hb
  rw [hi0]
  clear hi0
  go_upto_region 4 with fail
  have HK := Lib.hid (show (w1.alloc (.cells #[.pointer none, .slice none 0 0] 107)).heap[b]? = some (.cells #[.pointer none, .slice none 0 0] 107 (0, 0)) by rw [← hb]; exact blk_at)
  have HG1 := Lib.hid (gb_trans HG.out (World.grownBy_alloc w1 (.cells #[.pointer none, .slice none 0 0] 107) none))
  have HI1 := Lib.hid (((World.grownBy_alloc w1 (.cells #[.pointer none, .slice none 0 0] 107) none).block i0 (blk_lt HI.out) (by simp)).trans HI.out)
  clear hb HBB
  generalize w1.alloc (.cells #[.pointer none, .slice none 0 0] 107) = w1a at HK HG1 HI1 ⊢
  clear HI HG
  have KG := grow_calls b (16 + 2 * n) w1a HK.out (by have := HS.out; omega)
  rw [show ((16 + 2 * n : Nat) : Int) = 16 + 2 * (n : Int) by omega] at KG
  have KG := Lib.hid KG
  have hw1 : IntKind.i64.wrap (2 * (n : Int)) = 2 * (n : Int) := IntWalk.i64_in _ (by have := HS.out; omega)
  have hw2 : IntKind.i64.wrap (16 + 2 * (n : Int)) = 16 + 2 * (n : Int) := IntWalk.i64_in _ (by have := HS.out; omega)
  have x2 : w1a.cell? ⟨i0, 2, none⟩ = some (.slice (some ⟨bk, off, none⟩) n c) := blk_cell HI1.out 2
  go_wp2_with fail
  refine KG.out.mono ?_
  rintro e w2 ⟨rfl, o2, f2⟩
  have HO2 := Lib.hid o2
  have HG2 := Lib.hid (Fr.gb HG1.out f2 HBW.out (Nat.le_succ_of_le HBW.out))
  have HI2 := Lib.hid ((f2.block i0 (by omega) (by omega)).trans HI1.out)
  clear o2 f2 x2 KG hw1 hw2
  have x0 : w2.cell? ⟨i0, 0, none⟩ = some (.int .i64 X) := blk_cell HI2.out 0
  have x1 : w2.cell? ⟨i0, 1, none⟩ = some (.int .i64 Y) := blk_cell HI2.out 1
  go_wp2_with fail
  refine (KH.out _).mono ?_
  rintro e w3 ⟨rfl, g3⟩
  replace g3 := gb_trans (World.grownBy_alloc w2 (.cells #[.int .i64 X, .int .i64 Y] 3) none) g3
  have HG3 := Lib.hid (gb_trans HG2.out g3)
  have HO3 := Lib.hid (HO2.out.kept g3)
  have HI3 := Lib.hid ((g3.block i0 (blk_lt HI2.out) (by simp)).trans HI2.out)
  clear g3 HO2 HG2 HI2 x0 x1 KH
  have KT := Lib.hid (text1 b [] H w3 HO3.out (by rw [← HH.out, hdT_size]; decide))
  go_wp2_with fail
  refine KT.out.mono ?_
  rintro e w4 ⟨rfl, o4, f4⟩
  have HO4 := Lib.hid o4
  have HG4 := Lib.hid (Fr.gb HG3.out f4 HBW.out (Nat.le_succ_of_le HBW.out))
  have HI4 := Lib.hid ((f4.block i0 (by omega) (by omega)).trans HI3.out)
  clear o4 f4 HO3 HG3 HI3 KT
  have x2 : w4.cell? ⟨i0, 2, none⟩ = some (.slice (some ⟨bk, off, none⟩) n c) := blk_cell HI4.out 2
  go_wp2_with fail
  clear x2
  go_loopg [26] (n + 1) (fun q iv wr => ∃ k : Nat, k ≤ n ∧ q = n + 1 - k ∧ iv = .int .i64 (k : Int) ∧ Ow b (ffL X Y S k) wr ∧ W.grownBy wr none)
  case atStart => exact ⟨0, Nat.zero_le _, rfl, rfl, by
    have e : ffL X Y S 0 = [] ++ H.data.toList := by rw [← HH.out]; simp [ffL, dup, hdT]
    rw [e]; exact HO4.out, HG4.out⟩
  case round =>
    obtain ⟨k, hk, rfl, rfl, O, G⟩ := hrel
    have HO := Lib.hid O
    have HG := Lib.hid G
    clear O G HO4 HG4 HI4
    by_cases hlt : k < n
    · have hkS : k < S.size := by rw [HN.out]; exact hlt
      have hcell := HG.out.cell (HC.out k hkS) (by simp)
      have hnext := ffL_next X Y S k hkS
      have hlen := ffL_len X Y S k (Nat.le_of_lt hkS)
      obtain ⟨cv, hcv⟩ : ∃ cv, S[k] = cv := ⟨_, rfl⟩
      rw [hcv] at hcell hnext
      have HNX := Lib.hid hnext
      have HLN := Lib.hid hlen
      have d1 : decide ((k : Int) < (n : Int)) = true := decide_eq_true (by omega)
      have hw1 : IntKind.i64.wrap ((k : Int) + 1) = (k : Int) + 1 := IntWalk.i64_in _ (by have := HS.out; omega)
      clear hnext hlen hcv hkS
      have KB := Lib.hid (byte1 b (ffL X Y S k) cv wr HO.out (by rw [HLN.out]; have := HS.out; omega))
      go_wp2_with fail
      refine KB.out.mono ?_
      rintro e w5 ⟨rfl, o5, f5⟩
      have HO5 := Lib.hid o5
      have HG5 := Lib.hid (Fr.gb HG.out f5 HBW.out (Nat.le_succ_of_le HBW.out))
      clear o5 f5 KB HO HG
      have KB := Lib.hid (byte1 b (ffL X Y S k ++ [cv]) cv w5 HO5.out (by rw [List.length_append, HLN.out]; simp; have := HS.out; omega))
      go_wp2_with fail
      refine KB.out.mono ?_
      rintro e w6 ⟨rfl, o6, f6⟩
      have HO6 := Lib.hid o6
      have HG6 := Lib.hid (Fr.gb HG5.out f6 HBW.out (Nat.le_succ_of_le HBW.out))
      clear o6 f6 KB HO5 HG5
      go_wp2
      go_roundg (n + 1 - (k + 1))
      case measure => omega
      case rel => exact ⟨k + 1, by omega, rfl, by go_num, by rw [HNX.out]; exact HO6.out, HG6.out⟩
    · obtain rfl : k = n := by omega
      have KS := Lib.hid (string1 b (ffL X Y S k) wr HO.out (fun e => by have h := ffL_len X Y S k (by rw [HN.out]; exact Nat.le_refl _); rw [e] at h; simp at h; omega) (by rw [ffL_len X Y S k (by rw [HN.out]; exact Nat.le_refl _)]; have := HS.out; omega))
      go_wp2_with fail
      refine KS.out.mono ?_
      rintro e w5 ⟨rfl, f5⟩
      have HG5 := Lib.hid (Fr.gb HG.out f5 HBW.out (Nat.le_succ_of_le HBW.out))
      clear f5
      go_wp2
      go_ret2
      exact ⟨by unfold ffT; rw [HN.out]; rfl, HG5.out⟩

end Go.Proofs.YtboojlkncbipoaaGreat.Fw
