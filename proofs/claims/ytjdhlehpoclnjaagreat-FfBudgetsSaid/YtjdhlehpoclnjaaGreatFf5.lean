/- Farbfeld: what Sides and Decode do with any text, by any ledger. -/
import Derived.Test.YtjdhlehpoclnjaaGreatFf4
namespace Go.Proofs.YtjdhlehpoclnjaaGreat.Ff
open Go.ChangeShapes Go.WideShapes Go.ChangeAt Go.RowKit
open Go.Proofs.YtjdhlehpoclnjaaGreat.Le Go.Proofs.YtjdhlehpoclnjaaGreat.Tk Go.Proofs.YtjdhlehpoclnjaaGreat.Sr Go.Proofs.YtjdhlehpoclnjaaGreat.Sc Go.Proofs.YtjdhlehpoclnjaaGreat.Ra Go.Proofs.YtjdhlehpoclnjaaGreat.Sh
set_option linter.unusedVariables false

def TD (s : ByteArray) (v : TV) : Prop := ∀ (c l : Nat) (x : St) (W : World), Rd c l s 0 x W → x.r = 0 → Calls Tryz.prog 28 #[.pointer (some ⟨c, 0, none⟩)] W (DT 6 W s c l x v.f v.p v.w v.h v.N v.A)
/-- What Sides does, its step let. -/
def SD (s : ByteArray) (v : TV) : Prop := ∀ (c l : Nat) (x : St) (W : World), Rd c l s 0 x W → x.r = 0 → x.st + 1 ≤ x.s → Calls Tryz.prog 61 #[.pointer (some ⟨c, 0, none⟩)] W (fun e w' => e = .returned (.tuple #[.int .i64 v.w, .int .i64 v.h, if v.w = 0 then flF 6 v.f v.p else okT]) ∧ Tn W w' [c, l])
/-- A text's class. -/
inductive Cl (s : ByteArray) : TV → Prop
  | short (h : s.size < 16) : Cl s ⟨1, s.size, 0, 0, 1, ⟨#[]⟩⟩
  | bad (K : Nat) (h : 16 ≤ s.size) (M : MK sgF s K) (hk : kdS 8 K (beV s 8) (beV s 12) ≠ 0) : Cl s ⟨kdS 8 K (beV s 8) (beV s 12), plS 8 K (beV s 8) (beV s 12), 0, 0, 1, ⟨#[]⟩⟩
  | cut (k n w h : Nat) (h16 : 16 ≤ s.size) (M : MK sgF s 8) (ew : beV s 8 = w) (eh : beV s 12 = h) (hk : kdS 8 8 w h = 0) (hn : w * h = n) (hc : k < n) (h1 : 16 + 8 * k ≤ s.size) (h2 : s.size < 16 + 8 * k + 8) : Cl s ⟨1, s.size, w, h, 1 + (2 * k + 1), rk (cF s) n n⟩
  | good (n w h : Nat) (h16 : 16 ≤ s.size) (M : MK sgF s 8) (ew : beV s 8 = w) (eh : beV s 12 = h) (hk : kdS 8 8 w h = 0) (hn : w * h = n) (h1 : 16 + 8 * n ≤ s.size) : Cl s ⟨0, 0, w, h, 1 + 2 * n, rk (cF s) n n⟩
theorem kd0 {K w h : Nat} (hK : K ≤ 8) (e : kdS 8 K w h = 0) : K = 8 ∧ 1 ≤ w ∧ w ≤ 16384 ∧ 1 ≤ h ∧ h ≤ 16384 := by
  unfold kdS at e
  split at e
  · cases e
  · split at e
    · contradiction
    · next h1 h2 =>
      have := sdK_0 (Decidable.not_not.1 h2)
      have := sdK_0 e
      omega
theorem cl_ex (s : ByteArray) : ∃ v, Cl s v := by
  by_cases h16 : 16 ≤ s.size
  · obtain ⟨K, M⟩ := mk_ex sgF s
    by_cases hk : kdS 8 K (beV s 8) (beV s 12) = 0
    · obtain ⟨rfl, _⟩ := kd0 M.le hk
      by_cases h1 : 16 + 8 * (beV s 8 * beV s 12) ≤ s.size
      · exact ⟨_, .good _ _ _ h16 M rfl rfl hk rfl h1⟩
      · exact ⟨_, .cut ((s.size - 16) / 8) _ _ _ h16 M rfl rfl hk rfl (by omega) (by omega) (by omega)⟩
    · exact ⟨_, .bad K h16 M hk⟩
  · exact ⟨_, .short (by omega)⟩

section
variable {c l : Nat} {s : ByteArray} {x : St} {W : World}
theorem read_n (R : Rd c l s 0 x W) (hr : x.r = 0) (hn : s.size < 16 ∨ x.s < x.st + 1) (f p w h N : Nat) (A : ByteArray) (hN : 1 ≤ N) (hf : s.size < 16 → f = 1 ∧ p = s.size) :
    Calls Tryz.prog 28 #[.pointer (some ⟨c, 0, none⟩)] W (DT 6 W s c l x f p w h N A) := by
  by_cases hst : x.st + 1 ≤ x.s
  · have h16 : s.size < 16 := by omega
    obtain ⟨rfl, rfl⟩ := hf h16
    refine ddec_bad c l 0 s x (stp x 1) 1 s.size 1 s.size w h N A W R (fun u Ru => fsides_bad c l 0 s x (stp x 1) 1 s.size u Ru (fun v Rv => ?_)) (by decide) (lm_stp x 1) rfl (.inl ⟨by decide, rfl, rfl, hr⟩)
    obtain ⟨y, k, j, hno, K⟩ := read_no c l s sgF 16 6 x v Rv hr (.inl (by omega))
    rcases hno with ⟨_, _, rfl, rfl, rfl⟩ | ⟨h1, _⟩
    · exact K
    · omega
  · refine ddec_bad c l 0 s x (spent x) 4 ((0 : Nat) : Int) f p w h N A W R (fun u Ru => fsides_bad c l 0 s x (spent x) 4 ((0 : Nat) : Int) u Ru (fun v Rv => ?_)) (by decide) (lm_spent x) rfl (.inr ⟨rfl, by omega, by omega, by show (3 : Int) ≠ 0; decide, by omega⟩)
    obtain ⟨y, k, j, hno, K⟩ := read_no c l s sgF 16 6 x v Rv hr (.inr (by omega))
    rcases hno with ⟨_, h1, _⟩ | ⟨_, rfl, rfl, rfl⟩
    · omega
    · exact K
theorem sides_g (R : Rd c l s 0 x W) (hr : x.r = 0) (hst : x.st + 1 ≤ x.s) (h16 : 16 ≤ s.size) (M : MK sgF s 8) {w h : Nat} (ew : beV s 8 = w) (eh : beV s 12 = h) (hk : kdS 8 8 w h = 0) :
    Calls Tryz.prog 61 #[.pointer (some ⟨c, 0, none⟩)] W (fun e w' => e = .returned (.tuple #[.int .i64 w, .int .i64 h, okT]) ∧ Rd c l s 16 (stp x 1) w' ∧ Tn W w' [c, l]) :=
  fsides_ok c l 16 w h s _ x (stp x 1) W R (fun v Rv => read_ok c l s sgF 16 8 w h 6 x v Rv hr hst h16 (by decide) (by decide) M ew eh hk)
end

theorem td_of {s : ByteArray} {v : TV} (C : Cl s v) : TD s v := fun c l x W R hr => by
  by_cases hst : x.st + 1 ≤ x.s
  · cases C with
    | short h => exact read_n R hr (.inl h) _ _ _ _ _ _ (Nat.le_refl _) (fun _ => ⟨rfl, rfl⟩)
    | bad K h16 M hk =>
      have hk2 : ((kdS 8 K (beV s 8) (beV s 12) : Nat) : Int) ≠ 0 := by omega
      exact ddec_bad c l 16 s x (stp x 1) _ _ _ _ 0 0 1 _ W R (fun u Ru => fsides_bad c l 16 s x (stp x 1) _ _ u Ru (fun v Rv => read_bad c l s sgF 16 K _ _ 6 x v Rv hr hst h16 (by decide) (by decide) M rfl rfl hk)) hk2 (lm_stp x 1) rfl (.inl ⟨hk, rfl, rfl, hr⟩)
    | cut k n w h h16 M ew eh hk hn hc h1 h2 =>
      obtain ⟨_, w1, w2, g1, g2⟩ := kd0 (Nat.le_refl _) hk
      exact ddec_good c l s x w h n 1 s.size (2 * k + 1) (cF s) W R hr hn w1 w2 g1 g2 h16 (fun u Ru => sides_g Ru hr hst h16 M ew eh hk) (fun u r cb g x1 B R1 hr1 O => fill_calls c l r cb g w h n k 1 s.size (2 * k + 1) s x1 u B w2 g2 hn hr1 h16 R1 O (.inr ⟨hc, h1, h2, rfl, rfl, rfl⟩))
    | good n w h h16 M ew eh hk hn h1 =>
      obtain ⟨_, w1, w2, g1, g2⟩ := kd0 (Nat.le_refl _) hk
      exact ddec_good c l s x w h n 0 0 (2 * n) (cF s) W R hr hn w1 w2 g1 g2 h16 (fun u Ru => sides_g Ru hr hst h16 M ew eh hk) (fun u r cb g x1 B R1 hr1 O => fill_calls c l r cb g w h n n 0 0 (2 * n) s x1 u B w2 g2 hn hr1 h16 R1 O (.inl ⟨rfl, h1, rfl, rfl⟩))
  · have hN : 1 ≤ v.N := by cases C <;> simp only <;> omega
    refine read_n R hr (.inr (by omega)) _ _ _ _ _ _ hN (fun h => ?_)
    cases C with
    | short h => exact ⟨rfl, rfl⟩
    | bad K h16 M hk => omega
    | cut k n w h h16 M ew eh hk hn hc h1 h2 => omega
    | good n w h h16 M ew eh hk hn h1 => omega

theorem sd_of {s : ByteArray} {v : TV} (C : Cl s v) : SD s v := fun c l x W R hr hst => by
  cases C with
  | short h =>
    rw [if_pos rfl]
    refine (fsides_bad c l 0 s x (stp x 1) 1 s.size W R (fun v Rv => ?_)).mono (fun e w' h => ⟨h.1, h.2.2⟩)
    obtain ⟨y, k, j, hno, K⟩ := read_no c l s sgF 16 6 x v Rv hr (.inl (by omega))
    rcases hno with ⟨_, _, rfl, rfl, rfl⟩ | ⟨h1, _⟩
    · exact K
    · omega
  | bad K h16 M hk =>
    rw [if_pos rfl]
    exact (fsides_bad c l 16 s x (stp x 1) _ _ W R (fun v Rv => read_bad c l s sgF 16 K _ _ 6 x v Rv hr hst h16 (by decide) (by decide) M rfl rfl hk)).mono (fun e w' h => ⟨h.1, h.2.2⟩)
  | cut k n w h h16 M ew eh hk hn hc h1 h2 =>
    obtain ⟨_, w1, w2, g1, g2⟩ := kd0 (Nat.le_refl _) hk
    rw [if_neg (show ¬ w = 0 by omega)]
    exact (sides_g R hr hst h16 M ew eh hk).mono (fun e w' h => ⟨h.1, h.2.2⟩)
  | good n w h h16 M ew eh hk hn h1 =>
    obtain ⟨_, w1, w2, g1, g2⟩ := kd0 (Nat.le_refl _) hk
    rw [if_neg (show ¬ w = 0 by omega)]
    exact (sides_g R hr hst h16 M ew eh hk).mono (fun e w' h => ⟨h.1, h.2.2⟩)

end Go.Proofs.YtjdhlehpoclnjaaGreat.Ff
