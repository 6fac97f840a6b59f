/- Layer 30: any text has signs; the chapter's examples. -/
import Derived.Test.YtibbebglbcjnmaaDoorSn7
namespace Go.Proofs.YtibbebglbcjnmaaDoor.Sn
open Go.ChangeShapes Go.WideShapes Go.ChangeAt Go.RowKit
open Go.Proofs.YtibbebglbcjnmaaDoor.Le Go.Proofs.YtibbebglbcjnmaaDoor.Tk
set_option linter.unusedVariables false

theorem hs_ex (s : ByteArray) (b2 : Bool) (h2 : ∀ u : World, Calls Tryd.prog 18 #[.string s] u fun e w' => e = .returned (.bool b2) ∧ u.grownBy w' none) : ∃ B, Hs s B ∧ B 2 = b2 := by
  obtain ⟨b3, h3⟩ := beg_of s
  obtain ⟨b7, h7⟩ := pb_of s
  exact ⟨fun k => if k = 1 then isB ⟨#[66, 77]⟩ s else if k = 2 then b2 else if k = 3 then b3 else if k = 4 then icB s else if k = 5 then isB qoS s else if k = 6 then isB ffS s else if k = 7 then b7 else isB suS s,
    ⟨rfl, h2, h3, rfl, rfl, rfl, h7, rfl⟩, rfl⟩
theorem has_ord (s : ByteArray) (B : Nat → Bool) (H : Hs s B) (hs : s.size ≤ 9223372036854775807) (j : Nat) (h : j < 8) (u : World) : Calls Tryd.prog 11 #[.string s, .int .i64 (ordN j : Nat)] u fun e w' => e = .returned (.bool (B (ordN j))) ∧ u.grownBy w' none := by
  obtain rfl | rfl | rfl | rfl | rfl | rfl | rfl | rfl : j = 0 ∨ j = 1 ∨ j = 2 ∨ j = 3 ∨ j = 4 ∨ j = 5 ∨ j = 6 ∨ j = 7 := by omega
  · exact has_1 s B H hs u
  · exact has_3 s B H hs u
  · exact has_5 s B H hs u
  · exact has_6 s B H hs u
  · exact has_8 s B H hs u
  · exact has_7 s B H hs u
  · exact has_4 s B H hs u
  · exact has_2 s B H hs u
theorem fmt_first {B : Nat → Bool} (h : B 1 = true) : fmtL B = 1 := by simp [fmtL, allL, ordL, h]
theorem format_bm (W : World) (HT : OrdT W) : Calls Tryd.prog 9 #[.string ⟨#[66, 77]⟩] W fun e w' => e = .returned (.int .i64 1) ∧ W.grownBy w' none := by
  obtain ⟨B, H, _⟩ := hs_ex ⟨#[66, 77]⟩ false (fun u => tg_short _ (by decide) u)
  have K := format_calls ⟨#[66, 77]⟩ B (has_ord _ B H (by decide)) W HT
  rw [fmt_first (by rw [H.b1]; decide +kernel)] at K
  exact K
theorem format_empty (W : World) (HT : OrdT W) : Calls Tryd.prog 9 #[.string ⟨#[]⟩] W fun e w' => e = .returned (.int .i64 0) ∧ W.grownBy w' none := by
  obtain ⟨B, H, hb2⟩ := hs_ex ⟨#[]⟩ false (fun u => tg_short _ (by decide) u)
  have K := format_calls ⟨#[]⟩ B (has_ord _ B H (by decide)) W HT
  have h1 : B 1 = false := by rw [H.b1]; decide +kernel
  have h4 : B 4 = false := by rw [H.b4]; decide +kernel
  have h5 : B 5 = false := by rw [H.b5]; decide +kernel
  have h6 : B 6 = false := by rw [H.b6]; decide +kernel
  have h8 : B 8 = false := by rw [H.b8]; decide +kernel
  have h3 : B 3 = false := by
    have h := H.b3
    generalize B 3 = b at h
    cases h <;> first | rfl | (rename_i h _ _ _ _ _; exact absurd h (by decide)) | (rename_i h; exact absurd h (by decide)) | (rename_i h _ _ _ _ _ _ _ ; exact absurd h (by decide))
  have h7 : B 7 = false := by
    have h := H.b7
    generalize B 7 = b at h
    cases h with
    | short h => rfl
    | m x h h0 n0 => exact absurd h (by decide)
    | v y h h0 h1 n1 => rfl
    | p y z h h0 h1 n1 h2 n2 => rfl
    | b y q h h0 h1 n1 h2 h3 n3 n4 => rfl
    | one y h h0 h1 n1 h2 h3 => exact absurd h (by decide)
    | eight y h h0 h1 n1 h2 h3 => exact absurd h (by decide)
  rw [show fmtL B = 0 by simp [fmtL, allL, ordL, h1, hb2, h3, h4, h5, h6, h7, h8]] at K
  exact K
def exP : ByteArray := ⟨#[97, 46, 98, 46, 80, 71, 77]⟩
theorem nm_exP : nm exP = 3 := by decide +kernel

set_option maxRecDepth 100000 in
set_option maxHeartbeats 1000000 in
theorem awake_calls (W : World) (HT : OrdT W) : Calls Tryd.prog 6 #[] W fun e w' => e = .returned (.bool true) ∧ W.grownBy w' none := by
  have KN := named_calls exP (by decide) W HT
  rw [nm_exP] at KN
  unfold exP at KN
  have KN := Lib.hid KN
  have KB := Lib.hid (fun u (g : W.grownBy u none) => format_bm u (HT.grown g (fun b e => by cases e)))
  have KE := Lib.hid (fun u (g : W.grownBy u none) => format_empty u (HT.grown g (fun b e => by cases e)))
  clear HT
  go_enter Tryd.func6, Tryd.ntmps6
  go_wp2_with fail
  refine KN.out.mono ?_
  rintro e w1 ⟨rfl, g1⟩
  have HG1 := Lib.hid g1
  clear g1
  go_wp2_with fail
  refine (KB.out _ HG1.out).mono ?_
  rintro e w2 ⟨rfl, g2⟩
  have HG2 := Lib.hid (gb_trans HG1.out g2)
  clear g2
  go_wp2_with fail
  refine (KE.out _ HG2.out).mono ?_
  rintro e w3 ⟨rfl, g3⟩
  have HG3 := Lib.hid (gb_trans HG2.out g3)
  clear g3
  go_wp2
  go_ret
  exact ⟨rfl, HG3.out⟩

end Go.Proofs.YtibbebglbcjnmaaDoor.Sn
