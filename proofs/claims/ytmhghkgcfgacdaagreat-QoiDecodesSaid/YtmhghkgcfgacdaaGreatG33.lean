/- Texts of one kind, one behind the other: QoD. -/
import Derived.Test.YtmhghkgcfgacdaaGreatG32
/- Layer 26: what Sides and Decode do with any text, by any ledger. -/
namespace Go.Proofs.YtmhghkgcfgacdaaGreat.Qo
open Go.ChangeShapes Go.WideShapes Go.ChangeAt Go.RowKit
open Go.Proofs.YtmhghkgcfgacdaaGreat.Le Go.Proofs.YtmhghkgcfgacdaaGreat.Tk Go.Proofs.YtmhghkgcfgacdaaGreat.Sr Go.Proofs.YtmhghkgcfgacdaaGreat.Sh Go.Proofs.YtmhghkgcfgacdaaGreat.Qw
open Go.Proofs.YtmhghkgcfgacdaaGreat.Ra hiding bt
set_option linter.unusedVariables false

def TD (s : ByteArray) (v : TV) : Prop := ∀ (c l : Nat) (x : St) (W : World), Rd c l s 0 x W → x.r = 0 → Calls Tryz.prog 9 #[.pointer (some ⟨c, 0, none⟩)] W (DT 5 W s c l x v.f v.p v.w v.h v.N v.A)
/-- What Sides does, its step let. -/
def SD (s : ByteArray) (v : TV) : Prop := ∀ (c l : Nat) (x : St) (W : World), Rd c l s 0 x W → x.r = 0 → x.st + 1 ≤ x.s → Calls Tryz.prog 23 #[.pointer (some ⟨c, 0, none⟩)] W (fun e w' => e = .returned (.tuple #[.int .i64 v.w, .int .i64 v.h, if v.w = 0 then flF 5 v.f v.p else okT]) ∧ Tn W w' [c, l])
/-- A text's class. -/
inductive Cl (s : ByteArray) : TV → Prop
  | short (h : s.size < 14) : Cl s ⟨1, s.size, 0, 0, 1, ⟨#[]⟩⟩
  | bad (K : Nat) (h : 14 ≤ s.size) (M : MK sgQ s K) (hk : kdS 4 K (beV s 4) (beV s 8) ≠ 0) : Cl s ⟨kdS 4 K (beV s 4) (beV s 8), plS 4 K (beV s 4) (beV s 8), 0, 0, 1, ⟨#[]⟩⟩
  | chan (h14 : 14 ≤ s.size) (M : MK sgQ s 4) (hk : kdS 4 4 (beV s 4) (beV s 8) = 0) (h3 : bt s 12 ≠ 3) (h4 : bt s 12 ≠ 4) : Cl s ⟨2, 12, 0, 0, 1, ⟨#[]⟩⟩
  | space (h14 : 14 ≤ s.size) (M : MK sgQ s 4) (hk : kdS 4 4 (beV s 4) (beV s 8) = 0) (hc : bt s 12 = 3 ∨ bt s 12 = 4) (hs : 1 < bt s 13) : Cl s ⟨2, 13, 0, 0, 1, ⟨#[]⟩⟩
  | pix (n w h J f p N : Nat) (h14 : 14 ≤ s.size) (M : MK sgQ s 4) (ew : beV s 4 = w) (eh : beV s 8 = h) (hk : kdS 4 4 w h = 0) (hc : bt s 12 = 3 ∨ bt s 12 = 4) (hs : bt s 13 ≤ 1) (hn : w * h = n) (E : QE s n J f p N) : Cl s ⟨f, p, w, h, 1 + N, rk (CF (sq s J)) n n⟩
theorem kd0 {K w h : Nat} (hK : K ≤ 4) (e : kdS 4 K w h = 0) : K = 4 ∧ 1 ≤ w ∧ w ≤ 16384 ∧ 1 ≤ h ∧ h ≤ 16384 := by
  unfold kdS at e
  split at e
  · cases e
  · split at e
    · contradiction
    · next h1 h2 =>
      have := sdK_0 (Decidable.not_not.1 h2)
      have := sdK_0 e
      omega
theorem cl_ex (s : ByteArray) : ∃ v, Cl s v := by
  by_cases h14 : 14 ≤ s.size
  · obtain ⟨K, M⟩ := mk_ex sgQ s
    by_cases hk : kdS 4 K (beV s 4) (beV s 8) = 0
    · obtain ⟨rfl, _⟩ := kd0 M.le hk
      by_cases hc : bt s 12 = 3 ∨ bt s 12 = 4
      · by_cases hs : 1 < bt s 13
        · exact ⟨_, .space h14 M hk hc hs⟩
        · obtain ⟨J, f, p, N, E⟩ := qe_ex s (beV s 4 * beV s 8)
          exact ⟨_, .pix _ _ _ J f p N h14 M rfl rfl hk hc (by omega) rfl E⟩
      · exact ⟨_, .chan h14 M hk (by omega) (by omega)⟩
    · exact ⟨_, .bad K h14 M hk⟩
  · exact ⟨_, .short (by omega)⟩

section
variable {c l : Nat} {s : ByteArray} {x : St} {W : World}
theorem read_n (R : Rd c l s 0 x W) (hr : x.r = 0) (hn : s.size < 14 ∨ x.s < x.st + 1) (f p w h N : Nat) (A : ByteArray) (hN : 1 ≤ N) (hf : s.size < 14 → f = 1 ∧ p = s.size) :
    Calls Tryz.prog 9 #[.pointer (some ⟨c, 0, none⟩)] W (DT 5 W s c l x f p w h N A) := by
  by_cases hst : x.st + 1 ≤ x.s
  · have h14 : s.size < 14 := by omega
    obtain ⟨rfl, rfl⟩ := hf h14
    refine ddec_bad c l 0 s x (stp x 1) 1 s.size 1 s.size w h N A W R (fun u Ru => qsides_bad c l 0 s x (stp x 1) 1 s.size u Ru (by decide) (fun v Rv => ?_)) (by decide) (lm_stp x 1) rfl (.inl ⟨by decide, rfl, rfl, hr⟩)
    obtain ⟨y, k, j, hno, K⟩ := read_no c l s sgQ 14 5 x v Rv hr (.inl (by omega))
    rcases hno with ⟨_, _, rfl, rfl, rfl⟩ | ⟨h1, _⟩
    · exact K
    · omega
  · refine ddec_bad c l 0 s x (spent x) 4 ((0 : Nat) : Int) f p w h N A W R (fun u Ru => qsides_bad c l 0 s x (spent x) 4 ((0 : Nat) : Int) u Ru (by decide) (fun v Rv => ?_)) (by decide) (lm_spent x) rfl (.inr ⟨rfl, by omega, by omega, by show (3 : Int) ≠ 0; decide, by omega⟩)
    obtain ⟨y, k, j, hno, K⟩ := read_no c l s sgQ 14 5 x v Rv hr (.inr (by omega))
    rcases hno with ⟨_, h1, _⟩ | ⟨_, rfl, rfl, rfl⟩
    · omega
    · exact K
theorem ex_bt (s : ByteArray) (k : Nat) (hk : k < 14) : bt (s.extract 0 14) k = bt s k := by
  have := bt_ex s 0 14 k hk
  rwa [Nat.zero_add, Nat.zero_add] at this
theorem sides_g (R : Rd c l s 0 x W) (hr : x.r = 0) (hst : x.st + 1 ≤ x.s) (h14 : 14 ≤ s.size) (M : MK sgQ s 4) {w h : Nat} (ew : beV s 4 = w) (eh : beV s 8 = h) (hk : kdS 4 4 w h = 0) (hc : bt s 12 = 3 ∨ bt s 12 = 4) (hs : bt s 13 ≤ 1) :
    Calls Tryz.prog 23 #[.pointer (some ⟨c, 0, none⟩)] W (fun e w' => e = .returned (.tuple #[.int .i64 w, .int .i64 h, okT]) ∧ Rd c l s 14 (stp x 1) w' ∧ Tn W w' [c, l]) := by
  have hz : (s.extract 0 14).size = 14 := by rw [ByteArray.size_extract]; omega
  rcases hc with hc | hc
  · exact qsides_ok3 c l 14 w h (bt s 12) (bt s 13) s (s.extract 0 14) x (stp x 1) W R hz (ex_bt s 12 (by decide)) (ex_bt s 13 (by decide)) hc hs (fun v Rv => read_ok c l s sgQ 14 4 w h 5 x v Rv hr hst h14 (by decide) (by decide) M ew eh hk)
  · exact qsides_ok4 c l 14 w h (bt s 12) (bt s 13) s (s.extract 0 14) x (stp x 1) W R hz (ex_bt s 12 (by decide)) (ex_bt s 13 (by decide)) hc hs (fun v Rv => read_ok c l s sgQ 14 4 w h 5 x v Rv hr hst h14 (by decide) (by decide) M ew eh hk)
theorem sides_s (R : Rd c l s 0 x W) (hr : x.r = 0) (hst : x.st + 1 ≤ x.s) (h14 : 14 ≤ s.size) (M : MK sgQ s 4) (hk : kdS 4 4 (beV s 4) (beV s 8) = 0) (hc : bt s 12 = 3 ∨ bt s 12 = 4) (hs : 1 < bt s 13) :
    Calls Tryz.prog 23 #[.pointer (some ⟨c, 0, none⟩)] W (fun e w' => e = .returned (.tuple #[.int .i64 0, .int .i64 0, flF 5 2 13]) ∧ Rd c l s 14 (stp x 1) w' ∧ Tn W w' [c, l]) := by
  have hz : (s.extract 0 14).size = 14 := by rw [ByteArray.size_extract]; omega
  rcases hc with hc | hc
  · exact qsides_sp3 c l 14 _ _ (bt s 12) (bt s 13) s (s.extract 0 14) x (stp x 1) W R hz (ex_bt s 12 (by decide)) (ex_bt s 13 (by decide)) hc hs (fun v Rv => read_ok c l s sgQ 14 4 _ _ 5 x v Rv hr hst h14 (by decide) (by decide) M rfl rfl hk)
  · exact qsides_sp4 c l 14 _ _ (bt s 12) (bt s 13) s (s.extract 0 14) x (stp x 1) W R hz (ex_bt s 12 (by decide)) (ex_bt s 13 (by decide)) hc hs (fun v Rv => read_ok c l s sgQ 14 4 _ _ 5 x v Rv hr hst h14 (by decide) (by decide) M rfl rfl hk)
theorem sides_c (R : Rd c l s 0 x W) (hr : x.r = 0) (hst : x.st + 1 ≤ x.s) (h14 : 14 ≤ s.size) (M : MK sgQ s 4) (hk : kdS 4 4 (beV s 4) (beV s 8) = 0) (h3 : bt s 12 ≠ 3) (h4 : bt s 12 ≠ 4) :
    Calls Tryz.prog 23 #[.pointer (some ⟨c, 0, none⟩)] W (fun e w' => e = .returned (.tuple #[.int .i64 0, .int .i64 0, flF 5 2 12]) ∧ Rd c l s 14 (stp x 1) w' ∧ Tn W w' [c, l]) := by
  have hz : (s.extract 0 14).size = 14 := by rw [ByteArray.size_extract]; omega
  exact qsides_ch c l 14 _ _ (bt s 12) (bt s 13) s (s.extract 0 14) x (stp x 1) W R hz (ex_bt s 12 (by decide)) (ex_bt s 13 (by decide)) h3 h4 (fun v Rv => read_ok c l s sgQ 14 4 _ _ 5 x v Rv hr hst h14 (by decide) (by decide) M rfl rfl hk)
end

theorem td_of {s : ByteArray} {v : TV} (C : Cl s v) : TD s v := fun c l x W R hr => by
  by_cases hst : x.st + 1 ≤ x.s
  · cases C with
    | short h => exact read_n R hr (.inl h) _ _ _ _ _ _ (Nat.le_refl _) (fun _ => ⟨rfl, rfl⟩)
    | bad K h14 M hk =>
      have hk2 : ((kdS 4 K (beV s 4) (beV s 8) : Nat) : Int) ≠ 0 := by omega
      exact ddec_bad c l 14 s x (stp x 1) _ _ _ _ 0 0 1 _ W R (fun u Ru => qsides_bad c l 14 s x (stp x 1) _ _ u Ru hk2 (fun v Rv => read_bad c l s sgQ 14 K _ _ 5 x v Rv hr hst h14 (by decide) (by decide) M rfl rfl hk)) hk2 (lm_stp x 1) rfl (.inl ⟨hk, rfl, rfl, hr⟩)
    | chan h14 M hk h3 h4 =>
      exact ddec_bad c l 14 s x (stp x 1) 2 12 2 12 0 0 1 _ W R (fun u Ru => sides_c Ru hr hst h14 M hk h3 h4) (by decide) (lm_stp x 1) rfl (.inl ⟨by decide, rfl, rfl, hr⟩)
    | space h14 M hk hc hs =>
      exact ddec_bad c l 14 s x (stp x 1) 2 13 2 13 0 0 1 _ W R (fun u Ru => sides_s Ru hr hst h14 M hk hc hs) (by decide) (lm_stp x 1) rfl (.inl ⟨by decide, rfl, rfl, hr⟩)
    | pix n w h J f p N h14 M ew eh hk hc hs hn E =>
      obtain ⟨_, w1, w2, g1, g2⟩ := kd0 (Nat.le_refl _) hk
      exact ddec_good c l s x w h n f p N (CF (sq s J)) W R hr hn w1 w2 g1 g2 h14 (fun u Ru => sides_g Ru hr hst h14 M ew eh hk hc hs) (fun u r cb g x1 B R1 hr1 O => qfill_calls c l r cb g w h n J f p N s x1 u B w2 g2 hn hr1 E R1 O)
  · have hN : 1 ≤ v.N := by cases C <;> simp only <;> omega
    refine read_n R hr (.inr (by omega)) _ _ _ _ _ _ hN (fun h => ?_)
    cases C with
    | short h => exact ⟨rfl, rfl⟩
    | bad K h14 M hk => omega
    | chan h14 M hk h3 h4 => omega
    | space h14 M hk hc hs => omega
    | pix n w h J f p N h14 M ew eh hk hc hs hn E => omega

theorem sd_of {s : ByteArray} {v : TV} (C : Cl s v) : SD s v := fun c l x W R hr hst => by
  cases C with
  | short h =>
    rw [if_pos rfl]
    refine (qsides_bad c l 0 s x (stp x 1) 1 s.size W R (by decide) (fun v Rv => ?_)).mono (fun e w' h => ⟨h.1, h.2.2⟩)
    obtain ⟨y, k, j, hno, K⟩ := read_no c l s sgQ 14 5 x v Rv hr (.inl (by omega))
    rcases hno with ⟨_, _, rfl, rfl, rfl⟩ | ⟨h1, _⟩
    · exact K
    · omega
  | bad K h14 M hk =>
    rw [if_pos rfl]
    have hk2 : ((kdS 4 K (beV s 4) (beV s 8) : Nat) : Int) ≠ 0 := by omega
    exact (qsides_bad c l 14 s x (stp x 1) _ _ W R hk2 (fun v Rv => read_bad c l s sgQ 14 K _ _ 5 x v Rv hr hst h14 (by decide) (by decide) M rfl rfl hk)).mono (fun e w' h => ⟨h.1, h.2.2⟩)
  | chan h14 M hk h3 h4 =>
    rw [if_pos rfl]
    exact (sides_c R hr hst h14 M hk h3 h4).mono (fun e w' h => ⟨h.1, h.2.2⟩)
  | space h14 M hk hc hs =>
    rw [if_pos rfl]
    exact (sides_s R hr hst h14 M hk hc hs).mono (fun e w' h => ⟨h.1, h.2.2⟩)
  | pix n w h J f p N h14 M ew eh hk hc hs hn E =>
    obtain ⟨_, w1, w2, g1, g2⟩ := kd0 (Nat.le_refl _) hk
    rw [if_neg (show ¬ w = 0 by omega)]
    exact (sides_g R hr hst h14 M ew eh hk hc hs).mono (fun e w' h => ⟨h.1, h.2.2⟩)

end Go.Proofs.YtmhghkgcfgacdaaGreat.Qo
