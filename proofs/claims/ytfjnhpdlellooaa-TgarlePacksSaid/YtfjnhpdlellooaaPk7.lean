/- Layer 18: two rows of texts are held against each other; the chapter's example. -/
import Derived.Test.YtfjnhpdlellooaaPk6
namespace Go.Proofs.Ytfjnhpdlellooaa.Pk
open Go.ChangeShapes Go.WideShapes Go.ChangeAt Go.RowKit
set_option linter.unusedVariables false

set_option maxRecDepth 100000 in
theorem same_yes (b1 o1 c1 b2 o2 c2 N : Nat) (L : Nat → ByteArray) (W : World) (hN : N ≤ 300) (h1 : StrAt b1 o1 0 N L W) (h2 : StrAt b2 o2 0 N L W) :
    Calls Try.prog 8 #[.slice (some ⟨b1, o1, none⟩) N c1, .slice (some ⟨b2, o2, none⟩) N c2] W fun e w' => e = .returned (.bool true) ∧ W.grownBy w' none := by
  have H1 := Lib.hid h1
  have H2 := Lib.hid h2
  clear h1 h2
  go_enter Try.func8, Try.ntmps8
  go_wp2
  go_loopg [5] N (fun q iv wr => ∃ i : Nat, i ≤ N ∧ q = N - i ∧ iv = .int .i64 i ∧ W.grownBy wr none)
  case atStart => exact ⟨0, Nat.zero_le _, rfl, rfl, gbr _ _⟩
  case round =>
    obtain ⟨i, hi, rfl, rfl, g⟩ := hrel
    have HG := Lib.hid g
    by_cases hlt : i < N
    · have d1 : (i : Int) < (N : Int) := by omega
      have c1' := g.cell (H1.out i hlt) (by simp)
      have c2' := g.cell (H2.out i hlt) (by simp)
      rw [Nat.zero_add] at c1' c2'
      obtain ⟨z, hz⟩ : ∃ z, L i = z := ⟨_, rfl⟩
      rw [hz] at c1' c2'
      have e1 : (z.toList != z.toList) = false := by simp
      clear g hz
      go_wp2_with fail
      go_quiet (fail)
      have HG1 := Lib.hid (gbt HG.out (gbdn wr nq none))
      go_wp2
      go_roundg (N - (i + 1))
      case measure => omega
      case rel => exact ⟨i + 1, by omega, rfl, by go_num, HG1.out⟩
    · have d1 : ¬ (i : Int) < (N : Int) := by omega
      clear g
      go_wp2
      go_ret
      exact ⟨rfl, HG.out⟩

/-- The example's pixels. -/
def exL (k : Nat) : ByteArray := if k < 3 then ⟨#[97]⟩ else ⟨#[98]⟩
theorem exa_al : AL exL 4 0 3 := ⟨by decide, by decide, by decide, fun k hk => by
  unfold exL
  rw [if_pos (by omega), if_pos (by decide)], .inr (.inr (by decide))⟩
theorem exa_al2 : AL exL 4 3 1 := ⟨by decide, by decide, by decide, fun k hk => by obtain rfl : k = 0 := (by omega); rfl, .inr (.inl (by decide))⟩
theorem exa_ul : UL exL 4 3 1 := ⟨by decide, by decide, fun k hk => by obtain rfl : k = 0 := (by omega); decide, .inr (.inl (by decide))⟩
theorem exa_pk : pk exL 4 2 = (4, [130, 97, 0, 98]) := by
  have h1 : pk exL 4 1 = _ := pk_run (k := 0) (i := 0) (t := []) rfl (by decide) exa_al (by decide)
  exact pk_lit h1 (by decide) exa_al2 exa_ul

set_option maxRecDepth 100000 in
theorem awake_calls (W : World) : Calls Try.prog 4 #[] W fun e w' => e = .returned (.bool true) ∧ W.grownBy w' none := by
  have H0 : (W.alloc (.cells #[.string ⟨#[97]⟩, .string ⟨#[97]⟩, .string ⟨#[97]⟩, .string ⟨#[98]⟩] 9)).heap[W.heap.size]? = _ := heap_alloc_new W _
  have K := pack_calls W.heap.size 0 4 4 exL (W.alloc (.cells #[.string ⟨#[97]⟩, .string ⟨#[97]⟩, .string ⟨#[97]⟩, .string ⟨#[98]⟩] 9)) (by decide) (by decide) (by decide) (fun k _ => by unfold exL; split <;> decide) (fun k hk => by
    rw [cell_in H0]
    obtain rfl | rfl | rfl | rfl : k = 0 ∨ k = 1 ∨ k = 2 ∨ k = 3 := by omega
    all_goals rfl)
  have HG := Lib.hid (World.grownBy_alloc W (.cells #[.string ⟨#[97]⟩, .string ⟨#[97]⟩, .string ⟨#[97]⟩, .string ⟨#[98]⟩] 9) none)
  have HK := Lib.hid K
  clear K H0
  go_enter Try.func4, Try.ntmps4
  go_wp2_with fail
  refine HK.out.mono ?_
  rintro e w1 ⟨k, t, hk, _, rfl, g1⟩
  have HG1 := Lib.hid (gbt HG.out g1)
  have ht : t = [130, 97, 0, 98] := by
    have := pk_one (L := exL) (N := 4) (i := k) (j := 2) (by rw [hk]; exact Nat.le_refl _) (by rw [exa_pk]; exact Nat.le_refl _)
    rw [hk, exa_pk] at this
    exact this
  subst ht
  have e1 : ((⟨([130, 97, 0, 98] : List UInt8).toArray⟩ : ByteArray).toList == (⟨#[130, 97, 0, 98]⟩ : ByteArray).toList) = true := beq_self_eq_true _
  clear g1 hk
  go_wp2
  go_ret
  exact ⟨rfl, HG1.out⟩

end Go.Proofs.Ytfjnhpdlellooaa.Pk
