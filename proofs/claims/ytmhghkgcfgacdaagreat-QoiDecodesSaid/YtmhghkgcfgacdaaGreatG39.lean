/- Texts of one kind, one behind the other: Qp3, Qp4. -/
import Derived.Deep.LoopGhost
import Derived.Test.YtmhghkgcfgacdaaGreatG17
import Derived.Test.YtmhghkgcfgacdaaGreatG20
import Derived.Test.YtmhghkgcfgacdaaGreatG23
import Derived.Test.YtmhghkgcfgacdaaGreatG37
import Derived.Test.YtmhghkgcfgacdaaGreatG38
/- Layer 26: an image of one pixel, the last one ahead of all, is written. -/
namespace Go.Proofs.YtmhghkgcfgacdaaGreat.Qo
open Go.ChangeShapes Go.WideShapes Go.ChangeAt Go.RowKit
open Go.Proofs.YtmhghkgcfgacdaaGreat.Le Go.Proofs.YtmhghkgcfgacdaaGreat.Tk Go.Proofs.YtmhghkgcfgacdaaGreat.Sr Go.Proofs.YtmhghkgcfgacdaaGreat.Sh Go.Proofs.YtmhghkgcfgacdaaGreat.Qw Go.Proofs.YtmhghkgcfgacdaaGreat.Bd Go.Proofs.YtmhghkgcfgacdaaGreat.Am
open Go.Proofs.YtmhghkgcfgacdaaGreat.Ra hiding bt
set_option linter.unusedVariables false

/-- The pixel ahead of all. -/
def pK (_ j : Nat) : Nat := if j = 3 then 255 else 0
def qS : ByteArray := ⟨#[113, 111, 105, 102]⟩
def T23 : List UInt8 := (hdT qS 1 1 ++ ⟨#[4, 0]⟩).data.toList ++ [192, 0, 0, 0, 0, 0, 0, 0, 1]

set_option maxRecDepth 100000 in
set_option maxHeartbeats 2000000 in
theorem write_one (bk off : Nat) (W : World) (X : PX bk off 1 pK W) :
    Calls Tryz.prog 16 #[.agg #[.int .i64 1, .int .i64 1, .slice (some ⟨bk, off, none⟩) 4 4]] W fun e w' => e = .returned (.tuple #[.string ⟨T23.toArray⟩, .int .i64 0]) ∧ W.grownBy w' none := by
  have KR := Lib.hid (fun w => right_calls 1 1 (some ⟨bk, off, none⟩) 4 4 w (by decide))
  rw [show rightB 1 1 4 = true by decide] at KR
  have KH0 : ∀ u : World, Calls Tryz.prog 39 #[.string qS, .slice (some ⟨u.heap.size, 0, none⟩) 2 2] (u.alloc (.cells #[.int .i64 1, .int .i64 1] 3)) (fun e w' => e = .returned (.string (hdT qS 1 1)) ∧ (u.alloc (.cells #[.int .i64 1, .int .i64 1] 3)).grownBy w' none) := by
    intro u
    have hq := blk_at (w := u) (o := .cells #[.int .i64 1, .int .i64 1] 3)
    generalize u.alloc (.cells #[.int .i64 1, .int .i64 1] 3) = v at hq ⊢
    exact bytes_two qS (by decide) 1 1 u.heap.size (by decide) (by decide) v hq
  obtain ⟨H, hH⟩ : ∃ H, hdT qS 1 1 = H := ⟨_, rfl⟩
  simp only [hH] at KH0
  unfold qS at KH0
  have KH := Lib.hid KH0
  have HH := Lib.hid hH
  have hHs : H.size = 12 := by rw [← hH, hdT_size]; rfl
  have HX := Lib.hid X
  clear hH KH0 X
  go_enter Tryz.func16, Tryz.ntmps16
  go_wp2_with fail
  refine (KR.out _).mono ?_
  rintro e w1 ⟨rfl, g1⟩
  have HG := Lib.hid (gb_trans (World.grownBy_alloc W _ none) g1)
  have HI := Lib.hid ((g1.block W.heap.size (by rw [size_alloc]; omega) (by simp)).trans (blk_at (w := W)))
  clear g1 KR
  obtain ⟨i0, hi0⟩ : ∃ i, W.heap.size = i := ⟨_, rfl⟩
  rw [hi0] at HI
  have HI0 := Lib.hid hi0
  rw [hi0]
  clear hi0
  have KM := Lib.hid (memory_calls w1)
  go_wp2_with fail
  refine KM.out.mono ?_
  rintro e w2 ⟨rfl, g2⟩
  have HG2 := Lib.hid (gb_trans HG.out g2)
  have HI2 := Lib.hid ((g2.block i0 (blk_lt HI.out) (by simp)).trans HI.out)
  clear g2 KM HG HI
  have ml := mem0_len
  have fz : (List.foldl (fun cs x => cs.setIfInBounds x.snd x.fst) Tryz.zeroCells101 mem0.zipIdx).size = 262 := by rw [mem2_z, List.size_toArray, mem2_len]
  go_wp2_with fail
  clear ml fz
  rw [mem2_store w2]
  have g3 : w2.grownBy ((w2.alloc (.cells Tryz.zeroCells101 101)).setRow w2.heap.size mem2.toArray) none := gb_own (World.grownBy_alloc w2 (.cells Tryz.zeroCells101 101) none) (Nat.le_refl _) ⟨rfl, rfl, rfl, by simp, fun k _ hk => setRow_other _ _ k _ (fun e => hk (by rw [e]))⟩
  have HL3 := Lib.hid (setRow_heap (w2.alloc (.cells Tryz.zeroCells101 101)) w2.heap.size Tryz.zeroCells101 mem2.toArray 101 (0, 0) blk_at)
  have HG3 := Lib.hid (gb_trans HG2.out g3)
  have HI3 := Lib.hid ((g3.block i0 (blk_lt HI2.out) (by simp)).trans HI2.out)
  obtain ⟨b, hb⟩ : ∃ b, w2.heap.size = b := ⟨_, rfl⟩
  have HB0 := Lib.hid (show W.heap.size ≤ b ∧ i0 < b by
    have h1 := HG2.out.size
    have h2 := blk_lt HI2.out
    omega)
  rw [hb] at HL3 HG3 HI3 ⊢
  generalize (w2.alloc (.cells Tryz.zeroCells101 101)).setRow b mem2.toArray = w3 at HL3 HG3 HI3 ⊢
  clear g3 hb HG2 HI2
  have HO3 := Lib.hid (show Bo 101 mem2.toArray b 260 (b + 1) (.pointer none) (.slice none 0 0) [] w3 from ⟨HL3.out, by rw [List.getElem?_toArray]; exact mem2_hi 0, by rw [List.getElem?_toArray]; exact mem2_hi 1, World.ownsRow_nil _ _ _ _, Nat.lt_succ_self _, blk_lt HL3.out⟩)
  have x0 : w3.cell? ⟨i0, 0, none⟩ = some (.int .i64 1) := blk_cell HI3.out 0
  have x1 : w3.cell? ⟨i0, 1, none⟩ = some (.int .i64 1) := blk_cell HI3.out 1
  go_wp2_with fail
  refine (KH.out _).mono ?_
  rintro e w4 ⟨rfl, g4⟩
  replace g4 := gb_trans (World.grownBy_alloc w3 (.cells #[.int .i64 1, .int .i64 1] 3) none) g4
  have HG4 := Lib.hid (gb_trans HG3.out g4)
  have HO4 := Lib.hid (bo_kept HO3.out g4)
  have HI4 := Lib.hid ((g4.block i0 (blk_lt HI3.out) (by simp)).trans HI3.out)
  clear g4 x0 x1 KH HG3 HO3 HI3 HL3
  go_wp2_with fail
  have hz2 : (H ++ ⟨#[4, 0]⟩ : ByteArray).size = 14 := by rw [ByteArray.size_append, hHs]; rfl
  have KT := Lib.hid (text_calls 101 mem2.toArray b 260 (b + 1) (.pointer none) (.slice none 0 0) [] (H ++ ⟨#[4, 0]⟩) w4 HO4.out (.inl rfl) (by rw [List.size_toArray, mem2_len]; exact liesQ) (by rw [hz2]; decide))
  clear hz2
  refine KT.out.mono ?_
  rintro e w5 ⟨rfl, ⟨L5, O5⟩, F5⟩
  have HO5 := Lib.hid O5
  have HG5 := Lib.hid (Fr.gb HG4.out F5 HB0.out.1 (Nat.le_succ_of_le HB0.out.1))
  have HI5 := Lib.hid ((F5.block i0 (by have := HB0.out.2; omega) (by have := HB0.out.2; omega)).trans HI4.out)
  have x2 : w5.cell? ⟨i0, 2, none⟩ = some (.slice (some ⟨bk, off, none⟩) 4 4) := blk_cell HI5.out 2
  obtain ⟨bs5, hbs⟩ : ∃ l, [] ++ (H ++ ⟨#[4, 0]⟩ : ByteArray).data.toList = l := ⟨_, rfl⟩
  rw [hbs] at HO5
  have HBS := Lib.hid hbs
  have HLB := Lib.hid (show bs5.length = 14 by
    rw [← hbs, List.nil_append]
    show (H ++ ⟨#[4, 0]⟩ : ByteArray).size = 14
    rw [ByteArray.size_append, hHs]
    rfl)
  have HC5 := Lib.hid (show (wrC mem2.toArray b 260 L5).size = 262 ∧ ∀ j, j < 4 → (wrC mem2.toArray b 260 L5)[j]? = some (.int .u8 (pK 0 j : Nat)) from ⟨by rw [wrC_size, List.size_toArray, mem2_len], fun j hj => by
    unfold wrC
    rw [get_setn (by omega), get_setn (by omega)]
    have := mem2_mc.last j hj
    rw [this]
    have : j = 0 ∨ j = 1 ∨ j = 2 ∨ j = 3 := by omega
    rcases this with rfl | rfl | rfl | rfl <;> rfl⟩)
  obtain ⟨C5, hC5⟩ : ∃ C, wrC mem2.toArray b 260 L5 = C := ⟨_, rfl⟩
  rw [hC5] at HO5 HC5
  clear O5 F5 KT HG4 HO4 HI4 hC5 hbs hHs
  go_wp2_with fail
  clear x2
  go_loopg [5] 1 (fun q pv wr => (q = 1 ∧ pv = .slice (some ⟨bk, off, none⟩) 4 4 ∧ Bo 101 C5 b 260 (b + 1) (.pointer (some ⟨b, 260, none⟩)) L5 bs5 wr ∧ W.grownBy wr none) ∨ (q = 0 ∧ (∃ (a : Option Addr) (m : Nat), pv = .slice a 0 m) ∧ (∃ C' L', Bo 101 C' b 260 (b + 1) (.pointer (some ⟨b, 260, none⟩)) L' (bs5 ++ [UInt8.ofNat (64 * 3 + (1 - 1))]) wr ∧ C'.size = 262) ∧ W.grownBy wr none))
  case atStart => exact .inl ⟨rfl, rfl, HO5.out, HG5.out⟩
  case round =>
    clear HO5 HG5 HI5
    rcases hrel with ⟨rfl, rfl, O, G⟩ | ⟨rfl, ⟨a, m, rfl⟩, ⟨C', L', O, hC'⟩, G⟩
    · have KP := put_same b (b + 1) bk off 1 4 1 pK C5 _ L5 bs5 wr HC5.out.1 O (.inr rfl) (by rw [HLB.out]; decide) (HX.out.kept G) ⟨by decide, by decide, by decide, fun k j hk _ => (by rw [show k = 0 by omega]), fun _ h => absurd h (by decide)⟩ (by decide) (by decide) (by decide) (fun j => (by unfold pK; split <;> decide)) HC5.out.2
      rw [show (4 * 1 : Nat) = 4 from rfl] at KP
      have KP := Lib.hid KP
      have HG6 := Lib.hid G
      clear O G
      go_wp2_with fail
      refine KP.out.mono ?_
      rintro e w6 ⟨rfl, ⟨L6, O6⟩, F6⟩
      have HO6 := Lib.hid O6
      have HG7 := Lib.hid (Fr.gb HG6.out F6 HB0.out.1 (Nat.le_succ_of_le HB0.out.1))
      clear O6 F6 KP
      go_wp2
      go_roundg 0
      case measure => omega
      case rel => exact .inr ⟨rfl, ⟨some ⟨bk, off, none⟩, 0, rfl⟩, ⟨_, _, HO6.out, by rw [kpC_size, wrC_size]; exact HC5.out.1⟩, HG7.out⟩
    · have KT := Lib.hid (text_calls 101 C' b 260 (b + 1) _ L' _ ⟨#[0, 0, 0, 0, 0, 0, 0, 1]⟩ wr O (.inr rfl) (by rw [hC']; exact liesQ) (by rw [List.length_append, HLB.out]; decide))
      have HG6 := Lib.hid G
      have HC6 := Lib.hid hC'
      clear O G hC'
      go_wp2_with fail
      refine KT.out.mono ?_
      rintro e w6 ⟨rfl, ⟨L6, O6⟩, F6⟩
      have HG7 := Lib.hid (Fr.gb HG6.out F6 HB0.out.1 (Nat.le_succ_of_le HB0.out.1))
      have KS := Lib.hid (string_calls 101 _ b 260 (b + 1) _ L6 _ w6 O6 (by simp) (by rw [List.length_append, List.length_append, HLB.out]; decide))
      clear O6 F6 KT HG6
      go_wp2_with fail
      refine KS.out.mono ?_
      rintro e w7 ⟨rfl, F7⟩
      have HG8 := Lib.hid (Fr.gb HG7.out F7 HB0.out.1 (Nat.le_succ_of_le HB0.out.1))
      clear F7 KS
      go_wp2
      go_ret2
      exact ⟨by unfold T23; rw [HH.out, ← HBS.out]; rfl, HG8.out⟩

end Go.Proofs.YtmhghkgcfgacdaaGreat.Qo

/- Layer 26: the chapter's example. -/
namespace Go.Proofs.YtmhghkgcfgacdaaGreat.Qo
open Go.ChangeShapes Go.WideShapes Go.ChangeAt Go.RowKit
open Go.Proofs.YtmhghkgcfgacdaaGreat.Le Go.Proofs.YtmhghkgcfgacdaaGreat.Tk Go.Proofs.YtmhghkgcfgacdaaGreat.Sr Go.Proofs.YtmhghkgcfgacdaaGreat.Sh Go.Proofs.YtmhghkgcfgacdaaGreat.Qw Go.Proofs.YtmhghkgcfgacdaaGreat.Am
open Go.Proofs.YtmhghkgcfgacdaaGreat.Ra hiding bt
set_option linter.unusedVariables false

/-- Does a text begin so? -/
def isB (sg s : ByteArray) : Bool := decide (sg.size ≤ s.size) && ((s.extract 0 sg.size).toList == sg.toList)

set_option maxRecDepth 100000 in
theorem prefix_calls (s sg : ByteArray) (W : World) : Calls Tryz.prog 33 #[.string s, .string sg] W fun e w' => e = .returned (.bool (isB sg s)) ∧ W = w' := by
  have K : ∀ u, Calls Tryz.prog 53 #[.string s, .string sg] u fun e w' => e = .returned (.bool (isB sg s)) ∧ u = w' := by
    intro u
    by_cases hl : sg.size ≤ s.size
    · have d1 : decide ((sg.size : Int) ≤ (s.size : Int)) = true := decide_eq_true (by omega)
      have d1' : (sg.size : Int) ≤ (s.size : Int) := by omega
      rw [show isB sg s = ((s.extract 0 sg.size).toList == sg.toList) by unfold isB; rw [decide_eq_true hl]; rfl]
      go_enter Tryz.func53, Tryz.ntmps53
      go_wp2
      go_ret
      exact ⟨rfl, rfl⟩
    · have d1 : decide ((sg.size : Int) ≤ (s.size : Int)) = false := decide_eq_false (by omega)
      have d1' : ¬ (sg.size : Int) ≤ (s.size : Int) := by omega
      rw [show isB sg s = false by unfold isB; rw [decide_eq_false hl]; rfl]
      go_enter Tryz.func53, Tryz.ntmps53
      go_wp2
      go_ret
      exact ⟨rfl, rfl⟩
  have HK := Lib.hid K
  clear K
  go_enter Tryz.func33, Tryz.ntmps33
  go_wp2_with fail
  refine (HK.out _).mono ?_
  rintro e w' ⟨rfl, rfl⟩
  go_wp2
  go_ret
  exact ⟨rfl, rfl⟩
theorem is_calls (s : ByteArray) (W : World) : Calls Tryz.prog 12 #[.string s] W fun e w' => e = .returned (.bool (isB qS s)) ∧ W = w' := by
  have HK := Lib.hid (prefix_calls s qS)
  unfold qS at HK
  unfold qS
  obtain ⟨b, hb⟩ : ∃ b, isB (⟨#[113, 111, 105, 102]⟩ : ByteArray) s = b := ⟨_, rfl⟩
  rw [hb] at HK ⊢
  clear hb
  go_enter Tryz.func12, Tryz.ntmps12
  go_wp2_with fail
  refine (HK.out _).mono ?_
  rintro e w' ⟨rfl, rfl⟩
  go_wp2
  go_ret
  exact ⟨rfl, rfl⟩

def exQ : ByteArray := ⟨#[113, 111, 105, 102, 0, 0, 0, 1, 0, 0, 0, 1, 4, 0, 192, 0, 0, 0, 0, 0, 0, 0, 1]⟩
theorem exQ_is : (⟨T23.toArray⟩ : ByteArray) = exQ := by kernel_rfl

set_option maxRecDepth 100000 in
set_option maxHeartbeats 2000000 in
theorem awake_calls (W : World) : Calls Tryz.prog 5 #[] W fun e w' => e = .returned (.bool true) ∧ W.grownBy w' none := by
  have KW0 : ∀ u : World, Calls Tryz.prog 16 #[.agg #[.int .i64 1, .int .i64 1, .slice (some ⟨u.heap.size, 0, none⟩) 4 4]] (u.alloc (.cells #[.int .u8 0, .int .u8 0, .int .u8 0, .int .u8 255] 5)) fun e w' => e = .returned (.tuple #[.string exQ, .int .i64 0]) ∧ (u.alloc (.cells #[.int .u8 0, .int .u8 0, .int .u8 0, .int .u8 255] 5)).grownBy w' none := by
    intro u
    have hq := blk_at (w := u) (o := .cells #[.int .u8 0, .int .u8 0, .int .u8 0, .int .u8 255] 5)
    generalize u.alloc (.cells #[.int .u8 0, .int .u8 0, .int .u8 0, .int .u8 255] 5) = v at hq ⊢
    rw [← exQ_is]
    refine write_one u.heap.size 0 v (fun k j hk hj => ?_)
    obtain rfl : k = 0 := by omega
    rw [Nat.zero_add, Nat.mul_zero, Nat.zero_add]
    refine (blk_cell hq j).trans ?_
    have : j = 0 ∨ j = 1 ∨ j = 2 ∨ j = 3 := by omega
    rcases this with rfl | rfl | rfl | rfl <;> rfl
  unfold exQ at KW0
  have KW := Lib.hid KW0
  have K1 := fun u => is_calls exQ u
  have K2 := fun u => is_calls ⟨#[113, 111, 105]⟩ u
  rw [show isB qS exQ = true by decide +kernel] at K1
  rw [show isB qS ⟨#[113, 111, 105]⟩ = false by decide +kernel] at K2
  unfold exQ at K1
  have K1 := Lib.hid K1
  have K2 := Lib.hid K2
  clear KW0
  go_enter Tryz.func5, Tryz.ntmps5
  go_wp2_with fail
  refine (KW.out _).mono ?_
  rintro e w1 ⟨rfl, g1⟩
  have HG := Lib.hid (gb_trans (World.grownBy_alloc W _ none) g1)
  clear g1 KW
  have hz : (⟨#[113, 111, 105, 102, 0, 0, 0, 1, 0, 0, 0, 1, 4, 0, 192, 0, 0, 0, 0, 0, 0, 0, 1]⟩ : ByteArray).size = 23 := by kernel_rfl
  have h14 : 14 < (⟨#[113, 111, 105, 102, 0, 0, 0, 1, 0, 0, 0, 1, 4, 0, 192, 0, 0, 0, 0, 0, 0, 0, 1]⟩ : ByteArray).size := by decide
  go_wp2_with fail
  · refine (K1.out _).mono ?_
    rintro e w' ⟨rfl, rfl⟩
    clear K1
    go_wp2_with fail
    refine (K2.out _).mono ?_
    rintro e w' ⟨rfl, rfl⟩
    go_wp2
    go_ret
    exact ⟨rfl, HG.out⟩

end Go.Proofs.YtmhghkgcfgacdaaGreat.Qo
