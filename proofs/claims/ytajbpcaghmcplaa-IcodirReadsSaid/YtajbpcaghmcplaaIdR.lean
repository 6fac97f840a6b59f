/- Layer 24: the code's Read and the document's, of any bytes (written by wip/gen/idc.py). -/
import Derived.Test.YtajbpcaghmcplaaIdC
import Derived.Test.YtajbpcaghmcplaaId7f
import Derived.Test.YtajbpcaghmcplaaId7t
namespace Go.Proofs.Ytajbpcaghmcplaa.Id
open Go.ChangeShapes Go.WideShapes Go.ChangeAt Go.RowKit
open Go.Proofs.Ytajbpcaghmcplaa.Le Go.Proofs.Ytajbpcaghmcplaa.Sr Go.Proofs.Ytajbpcaghmcplaa.Dh
set_option linter.unusedVariables false

/-- The document's Read of a text. -/
def DDir (s : ByteArray) (RV : Array Value) : Prop := ∀ W : World, Calls Try.prog 11 #[.string s] W fun e w' => e = .returned (.agg RV) ∧ W.grownBy w' none
/-- A directory is bad for both, with n readings at most, or good. -/
def BadD (T : ByteArray) (p : Nat) (s : ByteArray) (x : St) : Prop := ∃ (n q : Nat) (k a : Nat), 1 ≤ n ∧ 16 * n ≤ s.size + 32 ∧ (k = 1 ∨ k = 2) ∧ a ≤ s.size + 32 ∧ DirO T p x n q Z9 #[.int .i64 (k : Nat), .int .i64 4, .int .i64 ((p + a : Nat))] ∧ DDir s (rdV false 0 0 0 0 0 0 0 0 (k : Nat) (a : Nat))
def GoodD (T : ByteArray) (p : Nat) (s : ByteArray) (x : St) : Prop := ∃ (cu : Bool) (c r w h a b sz pl : Nat), 1 ≤ c ∧ c ≤ 65535 ∧ r < c ∧ 6 + 16 * c ≤ s.size ∧ 6 + 16 * c ≤ pl ∧ pl + sz ≤ s.size ∧ 1 ≤ w ∧ w ≤ 256 ∧ 1 ≤ h ∧ h ≤ 256 ∧ a < 65536 ∧ b < 65536 ∧
  DirO T p x (1 + c) (p + 6 + 16 * c) (dB cu c r w h a b sz (p + pl)) #[.int .i64 0, .int .i64 0, .int .i64 0] ∧ DDir s (rdV cu (c : Nat) (r : Nat) (w : Nat) (h : Nat) (a : Nat) (b : Nat) (sz : Nat) (pl : Nat) 0 0)

section
variable {T s : ByteArray} {p : Nat} (hT : T.extract p T.size = s)
include hT
theorem sub_bn (i : Nat) (h : p + i < T.size) : bn s i = bn T (p + i) := by rw [← hT]; exact bn_ext T p T.size i (Nat.le_refl _) h
theorem sub_w2 (i : Nat) (h : p + i + 1 < T.size) : w2 s i = w2 T (p + i) := by rw [← hT]; exact w2_ext T p T.size i (Nat.le_refl _) h
theorem sub_w4 (i : Nat) (h : p + i + 3 < T.size) : w4 s i = w4 T (p + i) := by rw [← hT]; exact w4_ext T p T.size i (Nat.le_refl _) h
theorem sub_en (i : Nat) (h : p + (qE 0 i) + 16 ≤ T.size) : eW s (qE 0 i) = eW T (qE p i) ∧ eH s (qE 0 i) = eH T (qE p i) ∧ eA s (qE 0 i) = eA T (qE p i) ∧ eB s (qE 0 i) = eB T (qE p i) ∧ eS s (qE 0 i) = eS T (qE p i) ∧ eP s (qE 0 i) = eP T (qE p i) := by
  have e : qE p i = p + qE 0 i := by unfold qE; omega
  rw [e]
  unfold eW eH eA eB eS eP
  refine ⟨?_, ?_, ?_, ?_, ?_, ?_⟩
  · rw [sub_bn hT _ (by omega)]
  · rw [sub_bn hT _ (by omega)]; rfl
  · rw [sub_w2 hT _ (by omega)]; rfl
  · rw [sub_w2 hT _ (by omega)]; rfl
  · rw [sub_w4 hT _ (by omega)]; rfl
  · rw [sub_w4 hT _ (by omega)]; rfl
variable (hp : p ≤ T.size)
include hp
theorem sub_size : s.size = T.size - p := by rw [← hT, ByteArray.size_extract]; omega
theorem sub_ok (c i : Nat) : okE T p c i ↔ okE s 0 c i := by
  have hs := sub_size hT hp
  have e : qE p i = p + qE 0 i := by unfold qE; omega
  unfold okE
  by_cases h : qE p i + 16 ≤ T.size
  · obtain ⟨-, -, -, -, e5, e6⟩ := sub_en hT i (by omega)
    rw [e5, e6]
    omega
  · constructor
    · rintro ⟨h1, _⟩; omega
    · rintro ⟨h1, _⟩; omega
theorem sub_fk (c K : Nat) (h : FK T p c K) : FK s 0 c K := ⟨h.le, fun j hj => (sub_ok hT hp c j).1 (h.yes j hj), fun hk => fun h9 => h.no hk ((sub_ok hT hp c K).2 h9)⟩
theorem sub_bst (cu : Bool) (c : Nat) : ∀ i, (∀ j, j < i → okE T p c j) → bst s 0 cu i = bst T p cu i
  | 0, _ => rfl
  | i + 1, h => by
    have ih := sub_bst cu c i (fun j hj => h j (by omega))
    have hs := sub_size hT hp
    have e : qE p i = p + qE 0 i := by unfold qE; omega
    have hi := (h i (by omega)).1
    obtain ⟨a1, a2, a3, a4, a5, a6⟩ := sub_en hT i (by omega)
    show (if _ then _ else _) = (if _ then _ else _)
    rw [ih]
    by_cases h0 : i = 0
    · rw [if_pos (.inl h0), if_pos (.inl h0)]
    · have hb := bst_lt T p cu i (by omega)
      have hj := (h (bst T p cu i) (by omega)).1
      have e2 : qE p (bst T p cu i) = p + qE 0 (bst T p cu i) := by unfold qE; omega
      obtain ⟨b1, b2, b3, b4, b5, b6⟩ := sub_en hT (bst T p cu i) (by omega)
      unfold arE
      rw [a1, a2, a4, b1, b2, b4]
end

/-- Both Reads of a text from any place on, by any ledger's state that is not broken. -/
theorem dir_both (T : ByteArray) (p : Nat) (s : ByteArray) (hT : T.extract p T.size = s) (hp : p ≤ T.size) (hbg : T.size ≤ 4611686018427387904) (x : St) : BadD T p s x ∨ GoodD T p s x := by
  have hs := sub_size hT hp
  have sm : ∀ {dv fv : Array Value} {n q : Nat}, 1 ≤ n → (x.st + 1 ≤ x.s → ∀ (b l f : Nat) (W : World), Sl b l T p f T.size x W → x.r = 0 → Calls Try.prog 10 #[.pointer (some ⟨b, 0, none⟩)] W (RE b l T p f n q x dv fv W)) → DirO T p x n q dv fv := fun {dv fv n q} hn h b l f W hS hr => by
    by_cases hst : x.st + 1 ≤ x.s
    · exact h hst b l f W hS hr
    · exact read_over b l T p f x W hS hr (by omega) n q hn dv fv
  by_cases h6 : s.size < 6
  · refine .inl ⟨1, p, 1, s.size, by decide, by omega, .inl rfl, by omega, ?_, fun W => rread_short s (by omega) h6 W⟩
    rw [show p + s.size = T.size from by omega]
    exact sm (Nat.le_refl _) (fun hst b l f W hS hr => read_short b l T p f x W hS hr hst (by omega))
  have hz : (T.extract p (p + 6)).size = 6 := by rw [ByteArray.size_extract]; omega
  have z0 : w2 (T.extract p (p + 6)) 0 = w2 s 0 := by rw [w2_ext T p (p + 6) 0 (by omega) (by omega), sub_w2 hT 0 (by omega)]
  have z2 : w2 (T.extract p (p + 6)) 2 = w2 s 2 := by rw [w2_ext T p (p + 6) 2 (by omega) (by omega), sub_w2 hT 2 (by omega)]
  have z4 : w2 (T.extract p (p + 6)) 4 = w2 s 4 := by rw [w2_ext T p (p + 6) 4 (by omega) (by omega), sub_w2 hT 4 (by omega)]
  have wrong : wrB (T.extract p (p + 6)) = true → ∀ a : Nat, wrP (T.extract p (p + 6)) = (a : Nat) → DirO T p x 1 (p + 6) Z9 #[.int .i64 2, .int .i64 4, .int .i64 ((p + a : Nat))] := fun hw a ha => sm (Nat.le_refl _) (fun hst b l f W hS hr => by
    have R := read_wrong b l T p f x W hS hr hst (by omega) _ rfl hw
    rw [ha, ← Int.natCast_add] at R
    exact R)
  by_cases h0 : w2 s 0 ≠ 0
  · exact .inl ⟨1, p + 6, 2, 0, by decide, by omega, .inr rfl, by omega, wrong (decide_eq_true (.inl (by rw [z0]; exact h0))) 0 (by unfold wrP; rw [if_pos (by rw [z0]; exact h0)]; rfl), fun W => rread_none s (by omega) (by omega) h0 W⟩
  have h0' : w2 s 0 = 0 := by omega
  by_cases h2 : w2 s 2 ≠ 1 ∧ w2 s 2 ≠ 2
  · exact .inl ⟨1, p + 6, 2, 2, by decide, by omega, .inr rfl, by omega, wrong (decide_eq_true (.inr (.inl (by rw [z2]; exact h2)))) 2 (by unfold wrP; rw [if_neg (by rw [z0]; omega), if_pos (by rw [z2]; exact h2)]; rfl), fun W => rread_type s (by omega) (by omega) h0' h2 W⟩
  have h2' : w2 s 2 = 1 ∨ w2 s 2 = 2 := by omega
  by_cases h4 : w2 s 4 = 0
  · exact .inl ⟨1, p + 6, 2, 4, by decide, by omega, .inr rfl, by omega, wrong (decide_eq_true (.inr (.inr (by rw [z4]; exact h4)))) 4 (by unfold wrP; rw [if_neg (by rw [z0]; omega), if_neg (by rw [z2]; omega), if_pos (by rw [z4]; exact h4)]; rfl), fun W => rread_count s (by omega) (by omega) h0' h2' h4 W⟩
  obtain ⟨c, hc⟩ : ∃ c, w2 s 4 = c := ⟨_, rfl⟩
  have hcb := w2_lt s 4
  rw [hc] at h4 hcb z4
  obtain ⟨cu, hcu⟩ : ∃ cu, (((w2 s 2 : Nat) : Int) == 2) = cu := ⟨_, rfl⟩
  have hw : wrB (T.extract p (p + 6)) = false := by
    unfold wrB
    rw [z0, z2, z4]
    exact decide_eq_false (by omega)
  obtain ⟨K, hK⟩ := fk_ex T p c
  have hK0 := sub_fk hT hp c K hK
  have lps : ∀ {dv fv : Array Value} {n q : Nat}, 1 ≤ n → EndK T p cu c K n q dv fv → DirO T p x n q dv fv := fun {dv fv n q} hn he => sm hn (fun hst b l f W hS hr => read_loop b l T p f x W hS hr hst hbg (by omega) _ rfl hw c z4 cu (by rw [z2]; exact hcu) K hK n q dv fv he)
  have hle := hK.le
  have eK : qE p K = p + qE 0 K := by unfold qE; omega
  have rr : ∀ RV : Array Value, ((K = c ∧ RV = rdV cu c (bst s 0 cu c : Nat) (cW s 0 cu c : Nat) (cH s 0 cu c : Nat) (cA s 0 cu c : Nat) (cB s 0 cu c : Nat) (cS s 0 cu c : Nat) (cP s 0 cu c : Nat) 0 0) ∨ (K < c ∧ s.size < qE 0 K + 16 ∧ RV = rdV false 0 0 0 0 0 0 0 0 1 (s.size : Nat)) ∨ (K < c ∧ qE 0 K + 16 ≤ s.size ∧ RV = rdV false 0 0 0 0 0 0 0 0 2 ((qE 0 K + 12 : Nat)))) → DDir s RV := fun RV he W => by
    cases cu with
    | true => exact rread_loop_t s (by omega) (by omega) h0' h2' c hc h4 hcu K hK0 RV he W
    | false => exact rread_loop_f s (by omega) (by omega) h0' h2' c hc h4 hcu K hK0 RV he W
  have hKs : 0 < K → 6 + 16 * K ≤ s.size := fun h => by
    have := (hK0.yes (K - 1) (by omega)).1
    unfold qE at this
    omega
  by_cases hKc : K = c
  · subst hKc
    have hK1 := hKs (by omega)
    refine .inr ?_
    have hb := sub_bst hT hp cu K K (fun j hj => hK.yes j hj)
    have hbl := bst_lt T p cu K (by omega)
    obtain ⟨y1, y2, y3⟩ := hK.yes _ hbl
    have e : qE p (bst T p cu K) = p + qE 0 (bst T p cu K) := by unfold qE; omega
    obtain ⟨a1, a2, a3, a4, a5, a6⟩ := sub_en hT (bst T p cu K) (by omega)
    refine ⟨cu, K, bst T p cu K, eW T (qE p (bst T p cu K)), eH T (qE p (bst T p cu K)), eA T (qE p (bst T p cu K)), eB T (qE p (bst T p cu K)), eS T (qE p (bst T p cu K)), eP T (qE p (bst T p cu K)), by omega, by omega, hbl, hK1, y2, by omega, (eW_bd _ _).1, (eW_bd _ _).2, (eH_bd _ _).1, (eH_bd _ _).2, w2_lt _ _, w2_lt _ _, ?_, ?_⟩
    · have R := lps (by omega) (.inl ⟨rfl, rfl, rfl, rfl, rfl⟩)
      unfold dirV cW cH cA cB cS cP at R
      simp only [if_neg h4] at R
      exact R
    · have R := rr _ (.inl ⟨rfl, rfl⟩)
      unfold cW cH cA cB cS cP at R
      simp only [if_neg h4] at R
      rw [hb, a1, a2, a3, a4, a5, a6, Nat.zero_add] at R
      exact R
  · by_cases hsh : s.size < qE 0 K + 16
    · refine .inl ⟨2 + K, qE p K, 1, s.size, by omega, ?_, .inl rfl, by omega, ?_, rr _ (.inr (.inl ⟨by omega, hsh, rfl⟩))⟩
      · by_cases h9 : 0 < K
        · have := hKs h9; omega
        · omega
      · rw [show p + s.size = T.size from by omega]
        exact lps (by omega) (.inr (.inl ⟨by omega, by omega, rfl, rfl, rfl, rfl⟩))
    · refine .inl ⟨2 + K, qE p K + 16, 2, qE 0 K + 12, by omega, ?_, .inr rfl, by omega, ?_, rr _ (.inr (.inr ⟨by omega, by omega, rfl⟩))⟩
      · by_cases h9 : 0 < K
        · have := hKs h9; omega
        · omega
      · rw [show p + (qE 0 K + 12) = qE p K + 12 from by omega]
        exact lps (by omega) (.inr (.inr ⟨by omega, by omega, rfl, rfl, rfl, rfl⟩))

end Go.Proofs.Ytajbpcaghmcplaa.Id
