/- The law SrcNumbers, walked. -/
import Derived.Test.YtdcmbjhjfdjdhaaSrcB
import Derived.Lib.SlBytesRow
namespace Go.Proofs.Ytdcmbjhjfdjdhaa.Sr
open Go.ChangeShapes Go.WideShapes Go.ChangeAt Go.RowKit
open Go.Proofs.Ytdcmbjhjfdjdhaa.Le
set_option linter.unusedVariables false

def four (a b c d : UInt8) : ByteArray := ⟨#[a, b, c, d]⟩
theorem conv_four (a b c d : UInt8) (w : World) :
    (convert 52 9 (.slice (some ⟨w.heap.size, 0, none⟩) 4 4)).run Try.prog (w.alloc (.cells #[.int .u8 (a.toNat : Int), .int .u8 (b.toNat : Int), .int .u8 (c.toNat : Int), .int .u8 (d.toNat : Int)] 5)) =
      .ok (.string (four a b c d)) (w.alloc (.cells #[.int .u8 (a.toNat : Int), .int .u8 (b.toNat : Int), .int .u8 (c.toNat : Int), .int .u8 (d.toNat : Int)] 5)) := by
  have hc : Lib.Bytes (w.alloc (.cells #[.int .u8 (a.toNat : Int), .int .u8 (b.toNat : Int), .int .u8 (c.toNat : Int), .int .u8 (d.toNat : Int)] 5)) w.heap.size 0 (four a b c d) := by
    intro i hi
    have hi4 : i < 4 := hi
    obtain h | h | h | h : i = 0 ∨ i = 1 ∨ i = 2 ∨ i = 3 := by omega
    all_goals
      subst h
      exact blk_cell blk_at _
  exact Lib.run_convert_whole (P := Try.prog) _ 52 5 9 (by kernel_rfl) (by kernel_rfl) (by kernel_rfl) w.heap.size 0 (four a b c d) hc 4

set_option maxRecDepth 100000 in
set_option maxHeartbeats 4000000 in
theorem numbers_walk (a b c d : UInt8) (W : World) :
    Calls Try.prog 5 #[.int .u8 (a.toNat : Int), .int .u8 (b.toNat : Int), .int .u8 (c.toNat : Int), .int .u8 (d.toNat : Int)] W fun e w' => e = .returned (.bool true) ∧ W.grownBy w' none := by
  have hcv := conv_four a b c d W
  have hsz : (four a b c d).size = 4 := rfl
  obtain ⟨s, hs⟩ : ∃ s, four a b c d = s := ⟨_, rfl⟩
  obtain ⟨ia, ha⟩ : ∃ i : Int, (a.toNat : Int) = i := ⟨_, rfl⟩
  obtain ⟨ib, hb⟩ : ∃ i : Int, (b.toNat : Int) = i := ⟨_, rfl⟩
  obtain ⟨ic, hc⟩ : ∃ i : Int, (c.toNat : Int) = i := ⟨_, rfl⟩
  obtain ⟨id, hd⟩ : ∃ i : Int, (d.toNat : Int) = i := ⟨_, rfl⟩
  rw [hs] at hcv hsz
  rw [ha, hb, hc, hd] at hcv ⊢
  clear hs ha hb hc hd
  have e04 : s.extract 0 (0 + 4) = s := by
    apply ByteArray.ext
    apply Array.toList_inj.1
    rw [Lib.extract_data]
    simp only [List.drop_zero, Nat.sub_zero, Nat.zero_add]
    exact List.take_of_length_le (by rw [← Lib.size_eq, hsz]; exact Nat.le_refl _)
  have z13 : (s.extract 1 3).size = 2 := part_size s 1 2 (by omega)
  have HZ := Lib.hid hsz
  have HE := Lib.hid e04
  have h13 : ∀ w, (Instr.slice 9 (.string s) (some (.int .i64 1)) (some (.int .i64 3)) none).run Try.prog w = .ok (.string (s.extract 1 3)) w := fun w => cut_at s 1 2 (by omega) w
  have H13 := Lib.hid h13
  clear e04 hsz h13
  go_enter Try.func5, Try.ntmps5
  go_wp2_with fail
  refine (wnew_calls 100 (by decide) _).mono ?_
  rintro e w0 ⟨l, rfl, L0, g0, hl⟩
  have H0 := Lib.hid L0
  have G0 := Lib.hid (gb_trans (World.grownBy_alloc _ _ none) g0)
  have l0 := L0.lt
  rw [size_alloc] at hl
  clear L0 g0 hcv
  go_wp2_with fail
  refine (snew_calls l s _ (by have := HZ.out; omega)).mono ?_
  rintro e w1 ⟨c, rfl, S1, g1, hc⟩
  have H1 := Lib.hid (H0.out.grown g1 (by simp))
  have G1 := Lib.hid (gb_trans G0.out g1)
  have S1' := Lib.hid (HZ.out ▸ S1 l0)
  have hW := G0.out.size
  clear S1 g1 H0 G0
  go_wp2_with fail
  refine (le32_yes c l s 0 0 4 _ _ S1'.out H1.out (LW_ok (by decide) (by decide) (by decide)) (LW_rd (by decide) (by decide) (by decide))).mono ?_
  rintro e w2 ⟨rfl, ⟨S2, L2⟩, t2⟩
  rw [LW_work (by decide)] at L2
  rw [HE.out]
  have G2 := Lib.hid (Tn.own G1.out t2 (by simp; omega))
  have H2 := Lib.hid L2
  have S2' := Lib.hid S2
  clear S2 L2 t2 G1 S1' H1
  go_wp2_with fail
  refine (seek_yes c l s _ 0 4 0 _ S2'.out (by decide) (by decide)).mono ?_
  rintro e w3 ⟨rfl, S3, g3⟩
  have G3 := Lib.hid (gb_own G2.out (by omega) g3)
  have H3 := Lib.hid (H2.out.grown g3 (by simpa using S3.bl.symm))
  have S3' := Lib.hid S3
  clear S3 g3 G2 S2' H2
  go_wp2_with fail
  refine (be32_yes c l s 0 0 4 _ _ S3'.out H3.out (LW_ok (by decide) (by decide) (by decide)) (LW_rd (by decide) (by decide) (by decide))).mono ?_
  rintro e w4 ⟨rfl, ⟨S4, L4⟩, t4⟩
  rw [LW_work (by decide)] at L4
  rw [HE.out]
  have G4 := Lib.hid (Tn.own G3.out t4 (by simp; omega))
  have H4 := Lib.hid L4
  have S4' := Lib.hid S4
  clear S4 L4 t4 G3 S3' H3
  go_wp2_with fail
  refine (seek_yes c l s _ 0 4 0 _ S4'.out (by decide) (by decide)).mono ?_
  rintro e w5 ⟨rfl, S5, g5⟩
  have G5 := Lib.hid (gb_own G4.out (by omega) g5)
  have H5 := Lib.hid (H4.out.grown g5 (by simpa using S5.bl.symm))
  have S5' := Lib.hid S5
  clear S5 g5 G4 S4' H4
  go_wp2_with fail
  refine (int32_yes c l s 0 0 4 _ _ S5'.out H5.out (LW_ok (by decide) (by decide) (by decide)) (LW_rd (by decide) (by decide) (by decide))).mono ?_
  rintro e w6 ⟨rfl, ⟨S6, L6⟩, t6⟩
  rw [LW_work (by decide)] at L6
  rw [HE.out]
  have G6 := Lib.hid (Tn.own G5.out t6 (by simp; omega))
  have H6 := Lib.hid L6
  have S6' := Lib.hid S6
  clear S6 L6 t6 G5 S5' H5
  go_wp2_with fail
  refine (seek_yes c l s _ 0 4 1 _ S6'.out (by decide) (by decide)).mono ?_
  rintro e w7 ⟨rfl, S7, g7⟩
  have G7 := Lib.hid (gb_own G6.out (by omega) g7)
  have H7 := Lib.hid (H6.out.grown g7 (by simpa using S7.bl.symm))
  have S7' := Lib.hid S7
  clear S7 g7 G6 S6' H6
  go_wp2_with fail
  refine (le16_yes c l s 1 0 4 _ _ S7'.out H7.out (LW_ok (by decide) (by decide) (by decide)) (LW_rd (by decide) (by decide) (by decide))).mono ?_
  rintro e w8 ⟨rfl, ⟨S8, L8⟩, t8⟩
  rw [LW_work (by decide)] at L8
  have G8 := Lib.hid (Tn.own G7.out t8 (by simp; omega))
  have H8 := Lib.hid L8
  have S8' := Lib.hid S8
  clear S8 L8 t8 G7 S7' H7
  go_wp2_with fail
  refine (seek_yes c l s _ 0 4 1 _ S8'.out (by decide) (by decide)).mono ?_
  rintro e w9 ⟨rfl, S9, g9⟩
  have G9 := Lib.hid (gb_own G8.out (by omega) g9)
  have H9 := Lib.hid (H8.out.grown g9 (by simpa using S9.bl.symm))
  have S9' := Lib.hid S9
  clear S9 g9 G8 S8' H8
  go_wp2_with fail
  refine (be16_yes c l s 1 0 4 _ _ S9'.out H9.out (LW_ok (by decide) (by decide) (by decide)) (LW_rd (by decide) (by decide) (by decide))).mono ?_
  rintro e wA ⟨rfl, ⟨SA, LA⟩, tA⟩
  have GA := Lib.hid (Tn.own G9.out tA (by simp; omega))
  clear SA LA tA G9 S9' H9
  go_wp2_with fail
  refine (rle_calls s _ (by have := HZ.out; omega)).mono ?_
  rintro e w' ⟨rfl, rfl⟩
  go_wp2_with fail
  refine (rbe_calls s _ (by have := HZ.out; omega)).mono ?_
  rintro e w' ⟨rfl, rfl⟩
  go_wp2_with fail
  refine (rsigned_calls s _ (by have := HZ.out; omega)).mono ?_
  rintro e w' ⟨rfl, rfl⟩
  have h13 := H13.out
  obtain ⟨z, hz⟩ : ∃ z, s.extract 1 3 = z := ⟨_, rfl⟩
  have hs3 : s.size = 4 := HZ.out
  rw [hz] at h13 z13
  have e13 : s.extract 1 (1 + 2) = z := hz
  rw [e13]
  have HZ13 := Lib.hid z13
  clear z13 hz e13
  go_wp2_with fail
  refine (rle_calls z _ (by have := HZ13.out; omega)).mono ?_
  rintro e w' ⟨rfl, rfl⟩
  go_wp2_with fail
  refine (rbe_calls z _ (by have := HZ13.out; omega)).mono ?_
  rintro e w' ⟨rfl, rfl⟩
  go_wp2_with fail
  refine (awake_calls _).mono ?_
  rintro e wB ⟨rfl, gB⟩
  have GB := Lib.hid (gb_trans GA.out gB)
  clear gB
  go_wp2
  go_ret
  exact ⟨rfl, GB.out⟩

end Go.Proofs.Ytdcmbjhjfdjdhaa.Sr
