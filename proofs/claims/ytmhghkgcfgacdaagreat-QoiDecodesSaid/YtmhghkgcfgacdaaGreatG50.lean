/- Texts of one kind, one behind the other: Qe6. -/
import Derived.Test.YtmhghkgcfgacdaaGreatG40
import Derived.Test.YtmhghkgcfgacdaaGreatG42
import Derived.Test.YtmhghkgcfgacdaaGreatG49
/- Layer 26: the document's Step, any first byte; the law QoiDecodes of any text. -/
namespace Go.Proofs.YtmhghkgcfgacdaaGreat.Qo
open Go.ChangeShapes Go.WideShapes Go.ChangeAt Go.RowKit
open Go.Proofs.YtmhghkgcfgacdaaGreat.Le Go.Proofs.YtmhghkgcfgacdaaGreat.Tk Go.Proofs.YtmhghkgcfgacdaaGreat.Sr Go.Proofs.YtmhghkgcfgacdaaGreat.Sh Go.Proofs.YtmhghkgcfgacdaaGreat.Qw
open Go.Proofs.YtmhghkgcfgacdaaGreat.Ra hiding bt
set_option linter.unusedVariables false

theorem nb_one {b : Nat} (h : b < 128 ∨ (192 ≤ b ∧ b < 254)) : nb b = 1 := by
  unfold nb
  rw [if_neg (by omega), if_neg (by omega), if_neg (by omega)]
theorem nb_two {b : Nat} (h : 128 ≤ b ∧ b < 192) : nb b = 2 := by
  unfold nb
  rw [if_neg (by omega), if_neg (by omega), if_pos h]
theorem step_ok (s : ByteArray) (hsz : s.size ≤ 1000000) : StepOk s := fun p g last seen W hp ok oks S => by
  obtain ⟨b, hb⟩ : ∃ b, bt s p = b := ⟨_, rfl⟩
  have h256 := bt_lt s p
  rw [hb] at h256
  have hcl : b = 254 ∨ b = 255 ∨ b < 64 ∨ (64 ≤ b ∧ b < 128) ∨ (128 ≤ b ∧ b < 192) ∨ (192 ≤ b ∧ b < 254) := by omega
  refine ⟨fun hn => ?_, fun hn => ?_⟩
  · have hn2 := hn
    rw [hb] at hn2
    rcases hcl with h | h | h | h | h | h
    · exact rstep_A s p b g last seen W hp hsz ok oks S hb h (by rw [h] at hn2; exact hn2)
    · exact rstep_B s p b g last seen W hp hsz ok oks S hb h (by rw [h] at hn2; exact hn2)
    · exact rstep_C s p b g last seen W hp hsz ok oks S hb h (by rw [nb_one (by omega)] at hn2; exact hn2)
    · exact rstep_D s p b g last seen W hp hsz ok oks S hb h (by rw [nb_one (by omega)] at hn2; exact hn2)
    · exact rstep_E s p b g last seen W hp hsz ok oks S hb h (by rw [nb_two h] at hn2; exact hn2)
    · exact rstep_F s p b g last seen W hp hsz ok oks S hb h (by rw [nb_one (by omega)] at hn2; exact hn2)
  · have hn2 := hn
    rw [hb] at hn2
    rcases hcl with h | h | h | h | h | h
    · exact rstep_As s p b g last seen W hp hsz ok oks S hb h (by rw [h] at hn2; exact hn2)
    · exact rstep_Bs s p b g last seen W hp hsz ok oks S hb h (by rw [h] at hn2; exact hn2)
    · exfalso; rw [nb_one (by omega)] at hn2; omega
    · exfalso; rw [nb_one (by omega)] at hn2; omega
    · exact rstep_Es s p b g last seen W hp hsz ok oks S hb h (by rw [nb_two h] at hn2; exact hn2)
    · exfalso; rw [nb_one (by omega)] at hn2; omega
theorem decodes_any (s : ByteArray) (W : World) : Calls Tryz.prog 3 #[.string s] W fun e w' => e = .returned (.bool true) ∧ W.grownBy w' none :=
  dec_any s (fun h => step_ok s (by omega)) W

end Go.Proofs.YtmhghkgcfgacdaaGreat.Qo
