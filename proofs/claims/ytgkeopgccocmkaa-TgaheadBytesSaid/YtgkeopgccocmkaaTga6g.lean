/- The document's Read of a good head (written by tga6c.py). -/
import Derived.Test.YtgkeopgccocmkaaTgaGnb
import Derived.Test.YtgkeopgccocmkaaTgaGnc
import Derived.Test.YtgkeopgccocmkaaTgaGne
import Derived.Test.YtgkeopgccocmkaaTgaGnf
import Derived.Test.YtgkeopgccocmkaaTgaGya
import Derived.Test.YtgkeopgccocmkaaTgaGyb
import Derived.Test.YtgkeopgccocmkaaTgaGyc
import Derived.Test.YtgkeopgccocmkaaTgaGyd
import Derived.Test.YtgkeopgccocmkaaTgaGye
import Derived.Test.YtgkeopgccocmkaaTgaGyf
namespace Go.Proofs.Ytgkeopgccocmkaa.Tg
open Go.ChangeShapes Go.WideShapes Go.ChangeAt Go.RowKit
open Go.Proofs.Ytgkeopgccocmkaa.Le Go.Proofs.Ytgkeopgccocmkaa.Sr
set_option linter.unusedVariables false

/-- The document's Read of a good head. -/
theorem read_good (s : ByteArray) (W : World) (h18 : 18 ≤ s.size) (hm : s.size ≤ 9223372036854775807) (C : Ck s 12) :
    Calls Try.prog 7 #[.string s] W fun e w' => e = .returned (.agg (rGood s)) ∧ W.grownBy w' none := by
  have hr : rGood s = rV s 12 := (if_pos rfl).symm
  rw [hr]
  have h3 : ¬ 1 < bn s 1 := of_decide_eq_false (C.no 0 (by omega))
  have ht : typB (bn s 2) = true := by have h := C.no 1 (by omega); simp only [ck] at h; simpa using h
  have ht : 1 ≤ pln (bn s 2) ∧ pln (bn s 2) ≤ 3 := of_decide_eq_true ht
  have hd : dpB (bn s 16) (bn s 2) = true := by have h := C.no 9 (by omega); simp only [ck] at h; simpa using h
  have ha : alB (bn s 17 % 16) (bn s 16) = true := by have h := C.no 11 (by omega); simp only [ck] at h; simpa using h
  have ha : bn s 17 % 16 = 0 ∨ (bn s 16 = 16 ∧ bn s 17 % 16 = 1) ∨ (bn s 16 = 32 ∧ bn s 17 % 16 = 8) := of_decide_eq_true ha
  have hm2 : pln (bn s 2) = 1 → bn s 1 = 1 := fun hp => by
    have h := C.no 2 (by omega)
    simp only [ck, hp, mpB] at h
    simpa using h
  have h2 : bn s 2 = 1 ∨ bn s 2 = 2 ∨ bn s 2 = 3 ∨ bn s 2 = 9 ∨ bn s 2 = 10 ∨ bn s 2 = 11 := by unfold pln at ht; split at ht <;> omega
  have hn8 : pln (bn s 2) ≠ 2 → bn s 16 = 8 := fun hp => by unfold dpB at hd; rw [if_neg hp] at hd; exact of_decide_eq_true hd
  have h01 : bn s 1 = 0 ∨ bn s 1 = 1 := by omega
  rcases h01 with h1 | h1
  · rcases h2 with h2 | h2 | h2 | h2 | h2 | h2
    · exact absurd (hm2 (by rw [h2]; rfl)) (by omega)
    · rcases ha with ha | ⟨h16, ha⟩ | ⟨h16, ha⟩
      · exact read_nomp_12_2_0 (s := s) (W := W) (h18 := h18) (hm := hm) (C := C) (hRV := rfl) (e0 := rfl) (e1 := h1) (e2 := h2) (e7 := rfl) (e16 := rfl) (e17 := rfl) (eA := rfl) (eB := rfl) (eX := rfl) (eY := rfl) (eal := ha) (elf := rfl) (etp := rfl)
      · exact read_nomp_12_2_16_1 (s := s) (W := W) (h18 := h18) (hm := hm) (C := C) (hRV := rfl) (e0 := rfl) (e1 := h1) (e2 := h2) (e7 := rfl) (e16 := h16) (e17 := rfl) (eA := rfl) (eB := rfl) (eX := rfl) (eY := rfl) (eal := ha) (elf := rfl) (etp := rfl)
      · exact read_nomp_12_2_32_8 (s := s) (W := W) (h18 := h18) (hm := hm) (C := C) (hRV := rfl) (e0 := rfl) (e1 := h1) (e2 := h2) (e7 := rfl) (e16 := h16) (e17 := rfl) (eA := rfl) (eB := rfl) (eX := rfl) (eY := rfl) (eal := ha) (elf := rfl) (etp := rfl)
    · have h16 := hn8 (by rw [h2]; decide)
      have ha : bn s 17 % 16 = 0 := by omega
      exact read_nomp_12_3_8_0 (s := s) (W := W) (h18 := h18) (hm := hm) (C := C) (hRV := rfl) (e0 := rfl) (e1 := h1) (e2 := h2) (e7 := rfl) (e16 := h16) (e17 := rfl) (eA := rfl) (eB := rfl) (eX := rfl) (eY := rfl) (eal := ha) (elf := rfl) (etp := rfl)
    · exact absurd (hm2 (by rw [h2]; rfl)) (by omega)
    · rcases ha with ha | ⟨h16, ha⟩ | ⟨h16, ha⟩
      · exact read_nomp_12_10_0 (s := s) (W := W) (h18 := h18) (hm := hm) (C := C) (hRV := rfl) (e0 := rfl) (e1 := h1) (e2 := h2) (e7 := rfl) (e16 := rfl) (e17 := rfl) (eA := rfl) (eB := rfl) (eX := rfl) (eY := rfl) (eal := ha) (elf := rfl) (etp := rfl)
      · exact read_nomp_12_10_16_1 (s := s) (W := W) (h18 := h18) (hm := hm) (C := C) (hRV := rfl) (e0 := rfl) (e1 := h1) (e2 := h2) (e7 := rfl) (e16 := h16) (e17 := rfl) (eA := rfl) (eB := rfl) (eX := rfl) (eY := rfl) (eal := ha) (elf := rfl) (etp := rfl)
      · exact read_nomp_12_10_32_8 (s := s) (W := W) (h18 := h18) (hm := hm) (C := C) (hRV := rfl) (e0 := rfl) (e1 := h1) (e2 := h2) (e7 := rfl) (e16 := h16) (e17 := rfl) (eA := rfl) (eB := rfl) (eX := rfl) (eY := rfl) (eal := ha) (elf := rfl) (etp := rfl)
    · have h16 := hn8 (by rw [h2]; decide)
      have ha : bn s 17 % 16 = 0 := by omega
      exact read_nomp_12_11_8_0 (s := s) (W := W) (h18 := h18) (hm := hm) (C := C) (hRV := rfl) (e0 := rfl) (e1 := h1) (e2 := h2) (e7 := rfl) (e16 := h16) (e17 := rfl) (eA := rfl) (eB := rfl) (eX := rfl) (eY := rfl) (eal := ha) (elf := rfl) (etp := rfl)
  · rcases h2 with h2 | h2 | h2 | h2 | h2 | h2
    · have h16 := hn8 (by rw [h2]; decide)
      have ha : bn s 17 % 16 = 0 := by omega
      exact read_mp_12_1_8_0 (s := s) (W := W) (h18 := h18) (hm := hm) (C := C) (hRV := rfl) (e0 := rfl) (e1 := h1) (e2 := h2) (e7 := rfl) (e16 := h16) (e17 := rfl) (eA := rfl) (eB := rfl) (eX := rfl) (eY := rfl) (eal := ha) (elf := rfl) (etp := rfl)
    · rcases ha with ha | ⟨h16, ha⟩ | ⟨h16, ha⟩
      · exact read_mp_12_2_0 (s := s) (W := W) (h18 := h18) (hm := hm) (C := C) (hRV := rfl) (e0 := rfl) (e1 := h1) (e2 := h2) (e7 := rfl) (e16 := rfl) (e17 := rfl) (eA := rfl) (eB := rfl) (eX := rfl) (eY := rfl) (eal := ha) (elf := rfl) (etp := rfl)
      · exact read_mp_12_2_16_1 (s := s) (W := W) (h18 := h18) (hm := hm) (C := C) (hRV := rfl) (e0 := rfl) (e1 := h1) (e2 := h2) (e7 := rfl) (e16 := h16) (e17 := rfl) (eA := rfl) (eB := rfl) (eX := rfl) (eY := rfl) (eal := ha) (elf := rfl) (etp := rfl)
      · exact read_mp_12_2_32_8 (s := s) (W := W) (h18 := h18) (hm := hm) (C := C) (hRV := rfl) (e0 := rfl) (e1 := h1) (e2 := h2) (e7 := rfl) (e16 := h16) (e17 := rfl) (eA := rfl) (eB := rfl) (eX := rfl) (eY := rfl) (eal := ha) (elf := rfl) (etp := rfl)
    · have h16 := hn8 (by rw [h2]; decide)
      have ha : bn s 17 % 16 = 0 := by omega
      exact read_mp_12_3_8_0 (s := s) (W := W) (h18 := h18) (hm := hm) (C := C) (hRV := rfl) (e0 := rfl) (e1 := h1) (e2 := h2) (e7 := rfl) (e16 := h16) (e17 := rfl) (eA := rfl) (eB := rfl) (eX := rfl) (eY := rfl) (eal := ha) (elf := rfl) (etp := rfl)
    · have h16 := hn8 (by rw [h2]; decide)
      have ha : bn s 17 % 16 = 0 := by omega
      exact read_mp_12_9_8_0 (s := s) (W := W) (h18 := h18) (hm := hm) (C := C) (hRV := rfl) (e0 := rfl) (e1 := h1) (e2 := h2) (e7 := rfl) (e16 := h16) (e17 := rfl) (eA := rfl) (eB := rfl) (eX := rfl) (eY := rfl) (eal := ha) (elf := rfl) (etp := rfl)
    · rcases ha with ha | ⟨h16, ha⟩ | ⟨h16, ha⟩
      · exact read_mp_12_10_0 (s := s) (W := W) (h18 := h18) (hm := hm) (C := C) (hRV := rfl) (e0 := rfl) (e1 := h1) (e2 := h2) (e7 := rfl) (e16 := rfl) (e17 := rfl) (eA := rfl) (eB := rfl) (eX := rfl) (eY := rfl) (eal := ha) (elf := rfl) (etp := rfl)
      · exact read_mp_12_10_16_1 (s := s) (W := W) (h18 := h18) (hm := hm) (C := C) (hRV := rfl) (e0 := rfl) (e1 := h1) (e2 := h2) (e7 := rfl) (e16 := h16) (e17 := rfl) (eA := rfl) (eB := rfl) (eX := rfl) (eY := rfl) (eal := ha) (elf := rfl) (etp := rfl)
      · exact read_mp_12_10_32_8 (s := s) (W := W) (h18 := h18) (hm := hm) (C := C) (hRV := rfl) (e0 := rfl) (e1 := h1) (e2 := h2) (e7 := rfl) (e16 := h16) (e17 := rfl) (eA := rfl) (eB := rfl) (eX := rfl) (eY := rfl) (eal := ha) (elf := rfl) (etp := rfl)
    · have h16 := hn8 (by rw [h2]; decide)
      have ha : bn s 17 % 16 = 0 := by omega
      exact read_mp_12_11_8_0 (s := s) (W := W) (h18 := h18) (hm := hm) (C := C) (hRV := rfl) (e0 := rfl) (e1 := h1) (e2 := h2) (e7 := rfl) (e16 := h16) (e17 := rfl) (eA := rfl) (eB := rfl) (eX := rfl) (eY := rfl) (eal := ha) (elf := rfl) (etp := rfl)

end Go.Proofs.Ytgkeopgccocmkaa.Tg
