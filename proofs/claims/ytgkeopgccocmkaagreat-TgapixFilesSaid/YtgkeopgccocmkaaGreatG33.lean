/- Texts of one kind, one behind the other: TpE, TpF. -/
import Derived.Test.YtgkeopgccocmkaaGreatG32
/- Layer 17: classes of entries, classes of pixels (written by wip/gen/tpe.py). -/
namespace Go.Proofs.YtgkeopgccocmkaaGreat.Tp
open Go.ChangeShapes Go.WideShapes Go.ChangeAt Go.RowKit
open Go.Proofs.YtgkeopgccocmkaaGreat.Sc Go.Proofs.YtgkeopgccocmkaaGreat.Le Go.Proofs.YtgkeopgccocmkaaGreat.Pa Go.Proofs.YtgkeopgccocmkaaGreat.Tg
set_option linter.unusedVariables false

/-- Entries of so many bits: what the code and the document do with them. -/
structure EC (en kd sz T : Nat) : Prop where
  ek : ∀ u, Calls Tryz.prog 28 #[.int .i64 en] u fun e w' => e = .returned (.int .i64 kd) ∧ u = w'
  rk : ∀ u, Calls Tryz.prog 29 #[.int .i64 en] u fun e w' => e = .returned (.int .i64 kd) ∧ u = w'
  zs : ∀ u, Calls Tryz.prog 27 #[.int .i64 kd] u fun e w' => e = .returned (.int .i64 sz) ∧ u.grownBy w' none
  rz : ∀ u, Calls Tryz.prog 30 #[.int .i64 kd] u fun e w' => e = .returned (.int .i64 sz) ∧ u = w'
  s1 : 2 ≤ sz
  s2 : sz ≤ 4
  rd : ∀ (b l : Nat) (s : ByteArray) (o f t cnt K : Nat) (Y : St) (D : Nat → Nat → Int), Y.Ok → cnt ≤ 65535 → 1 ≤ cnt → (∀ k, k < K → ∀ j, j < 4 → D k j = entAt T s (o + k * sz) j) → K ≤ cnt → (∀ k, k < K → Sr.rdB (Rg.wk Y k) (o + k * sz) t sz = true) → (K = cnt ∨ Sr.rdB (Rg.wk Y K) (o + K * sz) t sz = false) → KR b l s o f t sz cnt K kd Y D
  rr : ∀ (v : ByteArray) (N : Nat) u, v.size ≤ 1000000 → N ≤ 100000 → N * sz ≤ v.size → Calls Tryz.prog 31 #[.string v, .int .i64 N, .int .i64 kd] u (RReadPost u T sz N v)
theorem kr_zero {K : Nat} {D : Nat → Nat → Int} {T : Nat} {s : ByteArray} {o sz : Nat} (h : ∀ k, k < K → ∀ j, j < 4 → D k j = entAt T s (o + k * sz) j) : ∀ k, k < K → ∀ j, j < 4 → D (0 + k) j = entAt T s (o + k * sz) j := fun k hk j hj => by rw [Nat.zero_add]; exact h k hk j hj
theorem ent_0 {S : ByteArray} {D : Nat → Nat → Int} : EntOf S 0 D := fun i hi => absurd hi (by omega)

theorem ec_15 : EC 15 2 2 0 where
  ek := ek_15
  rk := rk_15
  zs := fun u => size_yes 0 2 u (by decide) (by decide)
  rz := fun u => rsize_calls 2 u
  s1 := by decide
  s2 := by decide
  rd := fun b l s o f t cnt K Y D ok hc c1 hD k1 k2 k3 p q g S u hP hS hL n1 n2 n3 => Rg.read_0 p q l g b 0 cnt cnt K S s o f t Y D u hP ent_0 c1 (by omega) hS hL ok (by omega) n1 n2 n3 (kr_zero hD) k1 k2 k3
  rr := fun v N u h1 h2 h3 => rread_0 v N N u h1 h2 (Nat.le_refl _) h3 (.inl rfl)

theorem ec_16 : EC 16 2 2 0 where
  ek := ek_16
  rk := rk_16
  zs := fun u => size_yes 0 2 u (by decide) (by decide)
  rz := fun u => rsize_calls 2 u
  s1 := by decide
  s2 := by decide
  rd := fun b l s o f t cnt K Y D ok hc c1 hD k1 k2 k3 p q g S u hP hS hL n1 n2 n3 => Rg.read_0 p q l g b 0 cnt cnt K S s o f t Y D u hP ent_0 c1 (by omega) hS hL ok (by omega) n1 n2 n3 (kr_zero hD) k1 k2 k3
  rr := fun v N u h1 h2 h3 => rread_0 v N N u h1 h2 (Nat.le_refl _) h3 (.inl rfl)

theorem ec_24 : EC 24 3 3 1 where
  ek := ek_24
  rk := rk_24
  zs := fun u => size_yes 1 3 u (by decide) (by decide)
  rz := fun u => rsize_calls 3 u
  s1 := by decide
  s2 := by decide
  rd := fun b l s o f t cnt K Y D ok hc c1 hD k1 k2 k3 p q g S u hP hS hL n1 n2 n3 => Rg.read_1 p q l g b 0 cnt cnt K S s o f t Y D u hP ent_0 c1 (by omega) hS hL ok (by omega) n1 n2 n3 (kr_zero hD) k1 k2 k3
  rr := fun v N u h1 h2 h3 => rread_1 v N N u h1 h2 (Nat.le_refl _) h3 (.inl rfl)

theorem ec_32 : EC 32 5 4 3 where
  ek := ek_32
  rk := rk_32
  zs := fun u => size_yes 3 5 u (by decide) (by decide)
  rz := fun u => rsize_calls 5 u
  s1 := by decide
  s2 := by decide
  rd := fun b l s o f t cnt K Y D ok hc c1 hD k1 k2 k3 p q g S u hP hS hL n1 n2 n3 => Rg.read_3 p q l g b 0 cnt cnt K S s o f t Y D u hP ent_0 c1 (by omega) hS hL ok (by omega) n1 n2 n3 (kr_zero hD) k1 k2 k3
  rr := fun v N u h1 h2 h3 => rread_3 v N N u h1 h2 (Nat.le_refl _) h3 (.inl rfl)

theorem ec_ex (en : Nat) (h : colB en = true) : ∃ kd sz T, EC en kd sz T := by
  have h : en = 15 ∨ en = 16 ∨ en = 24 ∨ en = 32 := of_decide_eq_true h
  rcases h with rfl | rfl | rfl | rfl
  · exact ⟨_, _, _, ec_15⟩
  · exact ⟨_, _, _, ec_16⟩
  · exact ⟨_, _, _, ec_24⟩
  · exact ⟨_, _, _, ec_32⟩

/-- What the law's walk wants of the pixels' functions. -/
structure PF (s : ByteArray) (sz : Nat) (C : Nat → Nat → Int) (KD PL : Nat → Int) : Prop where
  s4 : sz ≤ 4
  c : ∀ o j, 0 ≤ C o j ∧ C o j ≤ 255
  fit : ∀ o, o ≤ s.size → KD o = 0 → o + sz ≤ s.size
  pl : ∀ o, KD o = 0 → PL o = 0
  cz : ∀ o j, KD o ≠ 0 → C o j = 0
theorem pf_in (s : ByteArray) (sz : Nat) (c : Nat → Nat → Int) (h4 : sz ≤ 4) (hc : ∀ o j, 0 ≤ c o j ∧ c o j ≤ 255) : PF s sz (inC s sz c) (inK s sz) (inP s sz) where
  s4 := h4
  c := fun o j => by unfold inC; split; exact hc o j; decide
  fit := fun o _ h => by unfold inK at h; split at h; assumption; exact absurd h (by decide)
  pl := fun o h => by unfold inK at h; unfold inP; split at h; rename_i h1; rw [if_pos h1]; exact absurd h (by decide)
  cz := fun o j h => by unfold inK at h; unfold inC; split at h; exact absurd rfl h; rename_i h1; rw [if_neg h1]
theorem pf_map (s : ByteArray) (fs cnt : Nat) (D : Nat → Nat → Int) (hD : ∀ k j, 0 ≤ D k j ∧ D k j ≤ 255) : PF s 1 (mC s fs cnt D) (mK s fs cnt) (mP s fs cnt) where
  s4 := by decide
  c := fun o j => by unfold mC; split; split; exact hD _ _; decide; decide
  fit := fun o _ h => by unfold mK at h; split at h; assumption; exact absurd h (by decide)
  pl := fun o h => by
    unfold mK at h; unfold mP
    by_cases h1 : o + 1 ≤ s.size
    · rw [if_pos h1] at h ⊢
      by_cases h2 : mOk s fs cnt o
      · rw [if_pos h2]
      · rw [if_neg h2] at h; exact absurd h (by decide)
    · rw [if_neg h1] at h; exact absurd h (by decide)
  cz := fun o j h => by
    unfold mK at h; unfold mC
    by_cases h1 : o + 1 ≤ s.size
    · rw [if_pos h1] at h ⊢
      by_cases h2 : mOk s fs cnt o
      · rw [if_pos h2] at h; exact absurd rfl h
      · rw [if_neg h2]
    · rw [if_neg h1]
theorem pxA_bd (d a : Nat) (s : ByteArray) (o : Nat) : 0 ≤ pxA d a s o ∧ pxA d a s o ≤ 255 := by
  unfold pxA
  split
  · split <;> decide
  · split
    · decide
    · exact entAt_bd _ _ _ _
def cC (T d a : Nat) (s : ByteArray) (o j : Nat) : Int := if j = 3 then pxA d a s o else entAt T s o j
theorem cC_bd (T d a : Nat) (s : ByteArray) (o j : Nat) : 0 ≤ cC T d a s o j ∧ cC T d a s o j ≤ 255 := by
  unfold cC
  split
  · exact pxA_bd _ _ _ _
  · exact entAt_bd _ _ _ _
def cG (s : ByteArray) (o j : Nat) : Int := if j = 3 then 255 else (bn s o : Nat)
theorem cG_bd (s : ByteArray) (o j : Nat) : 0 ≤ cG s o j ∧ cG s o j ≤ 255 := by
  have := bn_lt s o
  unfold cG
  split
  · decide
  · omega

/-- Pixels of such a head are told alike by the code and by the document. -/
def Both (nm x2 fs cnt en gw gh d a : Nat) (mp lf tp : Bool) (mi : Int) (s : ByteArray) (sz : Nat) (C : Nat → Nat → Int) (KD PL : Nat → Int) : Prop :=
  PF s sz C KD PL ∧ (∀ (b l : Nat) (pv : Value) (P : World → Prop), (∀ u u', P u → Tn u u' [b, l] → P u') → CodePix b l s sz #[.int .i64 nm, .bool mp, .int .i64 x2, .int .i64 fs, .int .i64 cnt, .int .i64 en, .int .i64 gw, .int .i64 gh, .int .i64 d, .int .i64 a, .bool lf, .bool tp] pv P C KD PL) ∧ (∀ (lv : Value) (Q : World → Prop), DocPix s #[.int .i64 nm, .int .i64 mi, .int .i64 x2, .int .i64 fs, .int .i64 cnt, .int .i64 en, .int .i64 gw, .int .i64 gh, .int .i64 d, .int .i64 a, .bool lf, .bool tp, .int .i64 0, .int .i64 0] lv Q C KD PL) ∧
    (∀ u, Calls Tryz.prog 15 #[.agg #[.int .i64 nm, .int .i64 mi, .int .i64 x2, .int .i64 fs, .int .i64 cnt, .int .i64 en, .int .i64 gw, .int .i64 gh, .int .i64 d, .int .i64 a, .bool lf, .bool tp, .int .i64 0, .int .i64 0]] u fun e w' => e = .returned (.int .i64 sz) ∧ u.grownBy w' none)

theorem both_col_15_0 (nm x2 fs cnt en gw gh : Nat) (mp lf tp : Bool) (mi : Int) (s : ByteArray) (hm : s.size ≤ 1000000) (hp : pln x2 = 2) (ht : x2 < 256) : Both nm x2 fs cnt en gw gh 15 0 mp lf tp mi s 2 (inC s 2 (cC 0 15 0 s)) (inK s 2) (inP s 2) := by
  have KS : ∀ u, Calls Tryz.prog 15 #[.agg #[.int .i64 nm, .int .i64 mi, .int .i64 x2, .int .i64 fs, .int .i64 cnt, .int .i64 en, .int .i64 gw, .int .i64 gh, .int .i64 (15 : Nat), .int .i64 (0 : Nat), .bool lf, .bool tp, .int .i64 0, .int .i64 0]] u fun e w' => e = .returned (.int .i64 ((2 : Nat) : Int)) ∧ u.grownBy w' none := fun u => rs_15 nm mi fs cnt en gw gh (0 : Nat) x2 lf tp u
  refine ⟨pf_in s 2 _ (by decide) (cC_bd 0 15 0 s), fun b l pv P hPt => ?_, fun lv Q => ?_, KS⟩
  · exact code_in nm x2 fs cnt en gw gh 15 0 mp lf tp b l 2 s pv P (cC 0 15 0 s) (by decide) (fun u => tsize_col nm fs cnt en gw gh (15 : Nat) (0 : Nat) x2 mp lf tp 2 2 u ht hp ek_15 (fun u => size_yes 0 2 u (by decide) (by decide))) hPt
      (fun o z u ho hz hP => tpix_col nm fs cnt en gw gh (15 : Nat) (0 : Nat) x2 mp lf tp z pv _ _ _ _ u ht hp (fun u => color_15_0 s z o u hz ho (by omega)))
  · exact doc_in nm x2 fs cnt en gw gh 15 0 mi lf tp 2 s lv Q (cC 0 15 0 s) (by decide) hm KS
      (fun o u ho hQ => rPixel_col nm mi fs cnt en gw gh (15 : Nat) (0 : Nat) x2 lf tp s o 2 lv _ _ _ _ ho (by decide) (fun u => rcolor_15_0 s _ o u rfl ho (by omega)) u (by omega) (by omega) (by decide) (by omega) KS)

theorem both_col_16_0 (nm x2 fs cnt en gw gh : Nat) (mp lf tp : Bool) (mi : Int) (s : ByteArray) (hm : s.size ≤ 1000000) (hp : pln x2 = 2) (ht : x2 < 256) : Both nm x2 fs cnt en gw gh 16 0 mp lf tp mi s 2 (inC s 2 (cC 0 16 0 s)) (inK s 2) (inP s 2) := by
  have KS : ∀ u, Calls Tryz.prog 15 #[.agg #[.int .i64 nm, .int .i64 mi, .int .i64 x2, .int .i64 fs, .int .i64 cnt, .int .i64 en, .int .i64 gw, .int .i64 gh, .int .i64 (16 : Nat), .int .i64 (0 : Nat), .bool lf, .bool tp, .int .i64 0, .int .i64 0]] u fun e w' => e = .returned (.int .i64 ((2 : Nat) : Int)) ∧ u.grownBy w' none := fun u => rs_16 nm mi fs cnt en gw gh (0 : Nat) x2 lf tp u
  refine ⟨pf_in s 2 _ (by decide) (cC_bd 0 16 0 s), fun b l pv P hPt => ?_, fun lv Q => ?_, KS⟩
  · exact code_in nm x2 fs cnt en gw gh 16 0 mp lf tp b l 2 s pv P (cC 0 16 0 s) (by decide) (fun u => tsize_col nm fs cnt en gw gh (16 : Nat) (0 : Nat) x2 mp lf tp 2 2 u ht hp ek_16 (fun u => size_yes 0 2 u (by decide) (by decide))) hPt
      (fun o z u ho hz hP => tpix_col nm fs cnt en gw gh (16 : Nat) (0 : Nat) x2 mp lf tp z pv _ _ _ _ u ht hp (fun u => color_16_0 s z o u hz ho (by omega)))
  · exact doc_in nm x2 fs cnt en gw gh 16 0 mi lf tp 2 s lv Q (cC 0 16 0 s) (by decide) hm KS
      (fun o u ho hQ => rPixel_col nm mi fs cnt en gw gh (16 : Nat) (0 : Nat) x2 lf tp s o 2 lv _ _ _ _ ho (by decide) (fun u => rcolor_16_0 s _ o u rfl ho (by omega)) u (by omega) (by omega) (by decide) (by omega) KS)

theorem both_col_16_1 (nm x2 fs cnt en gw gh : Nat) (mp lf tp : Bool) (mi : Int) (s : ByteArray) (hm : s.size ≤ 1000000) (hp : pln x2 = 2) (ht : x2 < 256) : Both nm x2 fs cnt en gw gh 16 1 mp lf tp mi s 2 (inC s 2 (cC 0 16 1 s)) (inK s 2) (inP s 2) := by
  have KS : ∀ u, Calls Tryz.prog 15 #[.agg #[.int .i64 nm, .int .i64 mi, .int .i64 x2, .int .i64 fs, .int .i64 cnt, .int .i64 en, .int .i64 gw, .int .i64 gh, .int .i64 (16 : Nat), .int .i64 (1 : Nat), .bool lf, .bool tp, .int .i64 0, .int .i64 0]] u fun e w' => e = .returned (.int .i64 ((2 : Nat) : Int)) ∧ u.grownBy w' none := fun u => rs_16 nm mi fs cnt en gw gh (1 : Nat) x2 lf tp u
  refine ⟨pf_in s 2 _ (by decide) (cC_bd 0 16 1 s), fun b l pv P hPt => ?_, fun lv Q => ?_, KS⟩
  · exact code_in nm x2 fs cnt en gw gh 16 1 mp lf tp b l 2 s pv P (cC 0 16 1 s) (by decide) (fun u => tsize_col nm fs cnt en gw gh (16 : Nat) (1 : Nat) x2 mp lf tp 2 2 u ht hp ek_16 (fun u => size_yes 0 2 u (by decide) (by decide))) hPt
      (fun o z u ho hz hP => tpix_col nm fs cnt en gw gh (16 : Nat) (1 : Nat) x2 mp lf tp z pv _ _ _ _ u ht hp (fun u => color_16_1 s z o u hz ho (by omega)))
  · exact doc_in nm x2 fs cnt en gw gh 16 1 mi lf tp 2 s lv Q (cC 0 16 1 s) (by decide) hm KS
      (fun o u ho hQ => rPixel_col nm mi fs cnt en gw gh (16 : Nat) (1 : Nat) x2 lf tp s o 2 lv _ _ _ _ ho (by decide) (fun u => rcolor_16_1 s _ o u rfl ho (by omega)) u (by omega) (by omega) (by decide) (by omega) KS)

theorem both_col_24_0 (nm x2 fs cnt en gw gh : Nat) (mp lf tp : Bool) (mi : Int) (s : ByteArray) (hm : s.size ≤ 1000000) (hp : pln x2 = 2) (ht : x2 < 256) : Both nm x2 fs cnt en gw gh 24 0 mp lf tp mi s 3 (inC s 3 (cC 1 24 0 s)) (inK s 3) (inP s 3) := by
  have KS : ∀ u, Calls Tryz.prog 15 #[.agg #[.int .i64 nm, .int .i64 mi, .int .i64 x2, .int .i64 fs, .int .i64 cnt, .int .i64 en, .int .i64 gw, .int .i64 gh, .int .i64 (24 : Nat), .int .i64 (0 : Nat), .bool lf, .bool tp, .int .i64 0, .int .i64 0]] u fun e w' => e = .returned (.int .i64 ((3 : Nat) : Int)) ∧ u.grownBy w' none := fun u => rs_24 nm mi fs cnt en gw gh (0 : Nat) x2 lf tp u
  refine ⟨pf_in s 3 _ (by decide) (cC_bd 1 24 0 s), fun b l pv P hPt => ?_, fun lv Q => ?_, KS⟩
  · exact code_in nm x2 fs cnt en gw gh 24 0 mp lf tp b l 3 s pv P (cC 1 24 0 s) (by decide) (fun u => tsize_col nm fs cnt en gw gh (24 : Nat) (0 : Nat) x2 mp lf tp 3 3 u ht hp ek_24 (fun u => size_yes 1 3 u (by decide) (by decide))) hPt
      (fun o z u ho hz hP => tpix_col nm fs cnt en gw gh (24 : Nat) (0 : Nat) x2 mp lf tp z pv _ _ _ _ u ht hp (fun u => color_24_0 s z o u hz ho (by omega)))
  · exact doc_in nm x2 fs cnt en gw gh 24 0 mi lf tp 3 s lv Q (cC 1 24 0 s) (by decide) hm KS
      (fun o u ho hQ => rPixel_col nm mi fs cnt en gw gh (24 : Nat) (0 : Nat) x2 lf tp s o 3 lv _ _ _ _ ho (by decide) (fun u => rcolor_24_0 s _ o u rfl ho (by omega)) u (by omega) (by omega) (by decide) (by omega) KS)

theorem both_col_32_0 (nm x2 fs cnt en gw gh : Nat) (mp lf tp : Bool) (mi : Int) (s : ByteArray) (hm : s.size ≤ 1000000) (hp : pln x2 = 2) (ht : x2 < 256) : Both nm x2 fs cnt en gw gh 32 0 mp lf tp mi s 4 (inC s 4 (cC 3 32 0 s)) (inK s 4) (inP s 4) := by
  have KS : ∀ u, Calls Tryz.prog 15 #[.agg #[.int .i64 nm, .int .i64 mi, .int .i64 x2, .int .i64 fs, .int .i64 cnt, .int .i64 en, .int .i64 gw, .int .i64 gh, .int .i64 (32 : Nat), .int .i64 (0 : Nat), .bool lf, .bool tp, .int .i64 0, .int .i64 0]] u fun e w' => e = .returned (.int .i64 ((4 : Nat) : Int)) ∧ u.grownBy w' none := fun u => rs_32 nm mi fs cnt en gw gh (0 : Nat) x2 lf tp u
  refine ⟨pf_in s 4 _ (by decide) (cC_bd 3 32 0 s), fun b l pv P hPt => ?_, fun lv Q => ?_, KS⟩
  · exact code_in nm x2 fs cnt en gw gh 32 0 mp lf tp b l 4 s pv P (cC 3 32 0 s) (by decide) (fun u => tsize_col nm fs cnt en gw gh (32 : Nat) (0 : Nat) x2 mp lf tp 5 4 u ht hp ek_32 (fun u => size_yes 3 5 u (by decide) (by decide))) hPt
      (fun o z u ho hz hP => tpix_col nm fs cnt en gw gh (32 : Nat) (0 : Nat) x2 mp lf tp z pv _ _ _ _ u ht hp (fun u => color_32_0 s z o u hz ho (by omega)))
  · exact doc_in nm x2 fs cnt en gw gh 32 0 mi lf tp 4 s lv Q (cC 3 32 0 s) (by decide) hm KS
      (fun o u ho hQ => rPixel_col nm mi fs cnt en gw gh (32 : Nat) (0 : Nat) x2 lf tp s o 4 lv _ _ _ _ ho (by decide) (fun u => rcolor_32_0 s _ o u rfl ho (by omega)) u (by omega) (by omega) (by decide) (by omega) KS)

theorem both_col_32_8 (nm x2 fs cnt en gw gh : Nat) (mp lf tp : Bool) (mi : Int) (s : ByteArray) (hm : s.size ≤ 1000000) (hp : pln x2 = 2) (ht : x2 < 256) : Both nm x2 fs cnt en gw gh 32 8 mp lf tp mi s 4 (inC s 4 (cC 3 32 8 s)) (inK s 4) (inP s 4) := by
  have KS : ∀ u, Calls Tryz.prog 15 #[.agg #[.int .i64 nm, .int .i64 mi, .int .i64 x2, .int .i64 fs, .int .i64 cnt, .int .i64 en, .int .i64 gw, .int .i64 gh, .int .i64 (32 : Nat), .int .i64 (8 : Nat), .bool lf, .bool tp, .int .i64 0, .int .i64 0]] u fun e w' => e = .returned (.int .i64 ((4 : Nat) : Int)) ∧ u.grownBy w' none := fun u => rs_32 nm mi fs cnt en gw gh (8 : Nat) x2 lf tp u
  refine ⟨pf_in s 4 _ (by decide) (cC_bd 3 32 8 s), fun b l pv P hPt => ?_, fun lv Q => ?_, KS⟩
  · exact code_in nm x2 fs cnt en gw gh 32 8 mp lf tp b l 4 s pv P (cC 3 32 8 s) (by decide) (fun u => tsize_col nm fs cnt en gw gh (32 : Nat) (8 : Nat) x2 mp lf tp 5 4 u ht hp ek_32 (fun u => size_yes 3 5 u (by decide) (by decide))) hPt
      (fun o z u ho hz hP => tpix_col nm fs cnt en gw gh (32 : Nat) (8 : Nat) x2 mp lf tp z pv _ _ _ _ u ht hp (fun u => color_32_8 s z o u hz ho (by omega)))
  · exact doc_in nm x2 fs cnt en gw gh 32 8 mi lf tp 4 s lv Q (cC 3 32 8 s) (by decide) hm KS
      (fun o u ho hQ => rPixel_col nm mi fs cnt en gw gh (32 : Nat) (8 : Nat) x2 lf tp s o 4 lv _ _ _ _ ho (by decide) (fun u => rcolor_32_8 s _ o u rfl ho (by omega)) u (by omega) (by omega) (by decide) (by omega) KS)

theorem both_grey_3 (nm fs cnt en gw gh a : Nat) (mp lf tp : Bool) (mi : Int) (s : ByteArray) (hm : s.size ≤ 1000000) : Both nm 3 fs cnt en gw gh 8 a mp lf tp mi s 1 (inC s 1 (cG s)) (inK s 1) (inP s 1) := by
  have KS : ∀ u, Calls Tryz.prog 15 #[.agg #[.int .i64 nm, .int .i64 mi, .int .i64 (3 : Nat), .int .i64 fs, .int .i64 cnt, .int .i64 en, .int .i64 gw, .int .i64 gh, .int .i64 (8 : Nat), .int .i64 a, .bool lf, .bool tp, .int .i64 0, .int .i64 0]] u fun e w' => e = .returned (.int .i64 ((1 : Nat) : Int)) ∧ u.grownBy w' none := fun u => rs_8 nm mi fs cnt en gw gh a 3 lf tp u
  refine ⟨pf_in s 1 _ (by decide) (cG_bd s), fun b l pv P hPt => ?_, fun lv Q => ?_, KS⟩
  · exact code_in nm 3 fs cnt en gw gh 8 a mp lf tp b l 1 s pv P (cG s) (by decide) (fun u => tsize_one nm fs cnt en gw gh (8 : Nat) a 3 mp lf tp u (by decide) (by decide)) hPt
      (fun o z u ho hz hP => by
        have hzs : z.size = 1 := by rw [← hz, ByteArray.size_extract]; omega
        have hzv : (z[0]'(by omega)).toNat = bn s o := by
          have h1 := bt_cut s z o (o + 1) 0 hz (by omega) (by omega)
          have h2 : bt s (o + 0) = (bn s o : Int) := rfl
          rw [h2] at h1
          omega
        exact tpix_grey nm fs cnt en gw gh (8 : Nat) a 3 mp lf tp z pv (bn s o) u (by decide) (by decide) (by decide) (by omega) hzv)
  · exact doc_in nm 3 fs cnt en gw gh 8 a mi lf tp 1 s lv Q (cG s) (by decide) hm KS
      (fun o u ho hQ => rPixel_grey3 nm mi fs cnt en gw gh (8 : Nat) a lf tp s o 1 lv (bn s o) ho (by decide) (by omega) (bn_at s o (by omega)) u (by omega) (by omega) (by decide) (by omega) KS)

theorem both_grey_11 (nm fs cnt en gw gh a : Nat) (mp lf tp : Bool) (mi : Int) (s : ByteArray) (hm : s.size ≤ 1000000) : Both nm 11 fs cnt en gw gh 8 a mp lf tp mi s 1 (inC s 1 (cG s)) (inK s 1) (inP s 1) := by
  have KS : ∀ u, Calls Tryz.prog 15 #[.agg #[.int .i64 nm, .int .i64 mi, .int .i64 (11 : Nat), .int .i64 fs, .int .i64 cnt, .int .i64 en, .int .i64 gw, .int .i64 gh, .int .i64 (8 : Nat), .int .i64 a, .bool lf, .bool tp, .int .i64 0, .int .i64 0]] u fun e w' => e = .returned (.int .i64 ((1 : Nat) : Int)) ∧ u.grownBy w' none := fun u => rs_8 nm mi fs cnt en gw gh a 11 lf tp u
  refine ⟨pf_in s 1 _ (by decide) (cG_bd s), fun b l pv P hPt => ?_, fun lv Q => ?_, KS⟩
  · exact code_in nm 11 fs cnt en gw gh 8 a mp lf tp b l 1 s pv P (cG s) (by decide) (fun u => tsize_one nm fs cnt en gw gh (8 : Nat) a 11 mp lf tp u (by decide) (by decide)) hPt
      (fun o z u ho hz hP => by
        have hzs : z.size = 1 := by rw [← hz, ByteArray.size_extract]; omega
        have hzv : (z[0]'(by omega)).toNat = bn s o := by
          have h1 := bt_cut s z o (o + 1) 0 hz (by omega) (by omega)
          have h2 : bt s (o + 0) = (bn s o : Int) := rfl
          rw [h2] at h1
          omega
        exact tpix_grey nm fs cnt en gw gh (8 : Nat) a 11 mp lf tp z pv (bn s o) u (by decide) (by decide) (by decide) (by omega) hzv)
  · exact doc_in nm 11 fs cnt en gw gh 8 a mi lf tp 1 s lv Q (cG s) (by decide) hm KS
      (fun o u ho hQ => rPixel_grey11 nm mi fs cnt en gw gh (8 : Nat) a lf tp s o 1 lv (bn s o) ho (by decide) (by omega) (bn_at s o (by omega)) u (by omega) (by omega) (by decide) (by omega) KS)

end Go.Proofs.YtgkeopgccocmkaaGreat.Tp

/- The law of layer 17, for every text (written by wip/gen/tpe.py). -/
namespace Go.Proofs.YtgkeopgccocmkaaGreat.Tp
open Go.ChangeShapes Go.WideShapes Go.ChangeAt Go.RowKit
open Go.Proofs.YtgkeopgccocmkaaGreat.Sc Go.Proofs.YtgkeopgccocmkaaGreat.Le Go.Proofs.YtgkeopgccocmkaaGreat.Pa Go.Proofs.YtgkeopgccocmkaaGreat.Tg
set_option linter.unusedVariables false

theorem both_ex (nm x2 fs cnt en gw gh d a : Nat) (mp lf tp : Bool) (mi : Int) (s : ByteArray) (hm : s.size ≤ 1000000) (hx : x2 = 2 ∨ x2 = 10 ∨ x2 = 3 ∨ x2 = 11) (hd : dpB d x2 = true) (ha : alB a d = true) :
    ∃ sz C KD PL, Both nm x2 fs cnt en gw gh d a mp lf tp mi s sz C KD PL := by
  have ha : a = 0 ∨ (d = 16 ∧ a = 1) ∨ (d = 32 ∧ a = 8) := of_decide_eq_true ha
  by_cases hp : pln x2 = 2
  · have ht : x2 < 256 := by omega
    have hd : d = 15 ∨ d = 16 ∨ d = 24 ∨ d = 32 := by unfold dpB at hd; rw [if_pos hp] at hd; exact of_decide_eq_true hd
    rcases ha with rfl | ⟨rfl, rfl⟩ | ⟨rfl, rfl⟩
    · rcases hd with rfl | rfl | rfl | rfl
      · exact ⟨_, _, _, _, both_col_15_0 nm x2 fs cnt en gw gh mp lf tp mi s hm hp ht⟩
      · exact ⟨_, _, _, _, both_col_16_0 nm x2 fs cnt en gw gh mp lf tp mi s hm hp ht⟩
      · exact ⟨_, _, _, _, both_col_24_0 nm x2 fs cnt en gw gh mp lf tp mi s hm hp ht⟩
      · exact ⟨_, _, _, _, both_col_32_0 nm x2 fs cnt en gw gh mp lf tp mi s hm hp ht⟩
    · exact ⟨_, _, _, _, both_col_16_1 nm x2 fs cnt en gw gh mp lf tp mi s hm hp ht⟩
    · exact ⟨_, _, _, _, both_col_32_8 nm x2 fs cnt en gw gh mp lf tp mi s hm hp ht⟩
  · have hd : d = 8 := by unfold dpB at hd; rw [if_neg hp] at hd; exact of_decide_eq_true hd
    have hx' : x2 = 3 ∨ x2 = 11 := by
      rcases hx with rfl | rfl | h
      · exact absurd (by rfl) hp
      · exact absurd (by rfl) hp
      · exact h
    subst hd
    rcases hx' with rfl | rfl
    · exact ⟨_, _, _, _, both_grey_3 nm fs cnt en gw gh a mp lf tp mi s hm⟩
    · exact ⟨_, _, _, _, both_grey_11 nm fs cnt en gw gh a mp lf tp mi s hm⟩

theorem LT_yl : YL 9999 (LT.work 1).1 := by
  have h : YL 10000 LT := ⟨⟨by decide, by decide, by decide, by decide, by decide, by decide, by decide, by decide, by decide, by decide, by decide, by decide, by decide⟩, by decide, by decide⟩
  exact h.step.1
theorem wk_by : ∀ (y : St) k, (Rg.wk y k).by_ = y.by_
  | y, 0 => rfl
  | y, k + 1 => by
    show ((Rg.wk y k).work 1).1.by_ = _
    have h : ∀ z : St, (z.work 1).1.by_ = z.by_ := fun z => by
      unfold St.work St.refuse
      repeat' split
      all_goals rfl
    rw [h, wk_by y k]
theorem wk_r {m : Nat} {y : St} (k : Nat) (h : YL (m + k) y) : (Rg.wk y k).r = 0 := (YL.wk k h).2.1
/-- Bytes that are taken. -/
theorem take_y {m : Nat} {y : St} (h : YL m y) (n : Nat) (hb : y.by_ + n ≤ y.b) : (y.take n).2 = true ∧ YL m (y.take n).1 ∧ (y.take n).1.by_ = y.by_ + n := by
  have e : y.take n = ({ y with by_ := y.by_ + n, pk := up y.pk (y.by_ + n) }, true) := by
    unfold St.take
    rw [if_neg (by simpa using h.2.1), if_neg (by omega)]
  have hk := h.1.take n
  rw [e] at hk ⊢
  exact ⟨rfl, ⟨hk, h.2.1, h.2.2⟩, rfl⟩
theorem give_y {y : St} (n : Nat) (h : y.by_ = n) : (y.give n).1.by_ = 0 ∧ (y.give n).1.r = y.r := by
  have e : y.give n = ({ y with by_ := y.by_ - n }, true) := by
    unfold St.give
    rw [if_neg (by omega)]
  rw [e]
  exact ⟨by show y.by_ - n = 0; omega, rfl⟩

theorem vars_name (s : ByteArray) (n : Nat) (nm x2 fs cnt en gw gh d a : Nat) (mp lf tp : Bool) (W : World) (hl : s.size ≤ 900) (hc : cnt ≤ 300) (hnm : nm ≤ 255)
  (KR0 : ∀ u, Calls Tryz.prog 4 #[.string s] u fun e w' => e = .returned (.agg #[.int .i64 nm, .int .i64 (if mp then 1 else 0), .int .i64 x2, .int .i64 fs, .int .i64 cnt, .int .i64 en, .int .i64 gw, .int .i64 gh, .int .i64 d, .int .i64 a, .bool lf, .bool tp, .int .i64 0, .int .i64 0]) ∧ u.grownBy w' none)
  (KH0 : ∀ c l u, Sr.So c l s 0 0 s.size u → Led l LT.ls u → Calls Tryz.prog 8 #[.pointer (some ⟨c, 0, none⟩)] u fun e w' => e = .returned (.tuple #[.agg #[.int .i64 nm, .bool mp, .int .i64 x2, .int .i64 fs, .int .i64 cnt, .int .i64 en, .int .i64 gw, .int .i64 gh, .int .i64 d, .int .i64 a, .bool lf, .bool tp], .agg #[.int .i64 0, .int .i64 0, .int .i64 0]]) ∧ (Sr.So c l s 18 0 s.size w' ∧ Led l (LT.work 1).1.ls w') ∧ Tn u w' [c, l]) (ht : x2 < 256) (h : s.size < 18 + nm) : Calls Tryz.prog 3 #[.string s, .int .u8 n] W fun e w' => e = .returned (.bool true) ∧ W.grownBy w' none :=
  files_fail s n nm x2 fs cnt en gw gh d a _ mp lf tp W hl hc KR0 KH0
    (fun c l u hS hL => (map_name fs cnt en gw gh d a nm x2 mp lf tp c l s 18 0 s.size _ u hS hL LT_yl.1 ht 1 s.size (LT_yl.no (by omega)) (if_pos LT_yl.step.1.2.1)).mono (fun e w' ⟨he, ⟨_, hl⟩, ht⟩ => ⟨he, ⟨_, hl, rfl⟩, ht⟩))
    (fun u => rmap_no _ fs en gw gh d a nm cnt x2 lf tp s u (by omega) hnm (by omega) h)

theorem vars_none (s : ByteArray) (n : Nat) (nm x2 fs cnt en gw gh d a : Nat) (mp lf tp : Bool) (W : World) (hl : s.size ≤ 900) (hn : n ≤ 255) (hc : cnt ≤ 300) (hnm : nm ≤ 255)
  (KR0 : ∀ u, Calls Tryz.prog 4 #[.string s] u fun e w' => e = .returned (.agg #[.int .i64 nm, .int .i64 (if mp then 1 else 0), .int .i64 x2, .int .i64 fs, .int .i64 cnt, .int .i64 en, .int .i64 gw, .int .i64 gh, .int .i64 d, .int .i64 a, .bool lf, .bool tp, .int .i64 0, .int .i64 0]) ∧ u.grownBy w' none)
  (KH0 : ∀ c l u, Sr.So c l s 0 0 s.size u → Led l LT.ls u → Calls Tryz.prog 8 #[.pointer (some ⟨c, 0, none⟩)] u fun e w' => e = .returned (.tuple #[.agg #[.int .i64 nm, .bool mp, .int .i64 x2, .int .i64 fs, .int .i64 cnt, .int .i64 en, .int .i64 gw, .int .i64 gh, .int .i64 d, .int .i64 a, .bool lf, .bool tp], .agg #[.int .i64 0, .int .i64 0, .int .i64 0]]) ∧ (Sr.So c l s 18 0 s.size w' ∧ Led l (LT.work 1).1.ls w') ∧ Tn u w' [c, l]) (hmp : mp = false) (hx : x2 = 2 ∨ x2 = 10 ∨ x2 = 3 ∨ x2 = 11) (hd : dpB d x2 = true) (ha : alB a d = true) (h : 18 + nm ≤ s.size) : Calls Tryz.prog 3 #[.string s, .int .u8 n] W fun e w' => e = .returned (.bool true) ∧ W.grownBy w' none := by
  subst hmp
  obtain ⟨sz, C, KD, PL, F, CP, DP, SZ⟩ := both_ex nm x2 fs cnt en gw gh d a false lf tp 0 s (by omega) hx hd ha
  have hp : ((pln x2 : Int) == 1) = false := by rcases hx with rfl | rfl | rfl | rfl <;> rfl
  exact files_ok s n nm x2 fs cnt en gw gh d a 0 false lf tp W hl hc KR0 KH0 (18 + nm) sz C KD PL false h hn F.s4 (by rcases hx with rfl | rfl | rfl | rfl <;> rfl) F.c F.fit F.pl F.cz
    (fun c l u hS hL => (map_none fs cnt en gw gh d a nm x2 lf tp c l s 18 0 s.size _ u hS hL LT_yl.1 (by omega) (LT_yl.rd (by omega) (by omega)) hp).mono (fun e w' ⟨he, ⟨hS', hL'⟩, ht⟩ =>
      ⟨.pointer none, fun _ => True, _, he, hS', LT_yl.step.1.mono (by decide), hL', trivial, fun _ _ _ _ => trivial, CP c l _ _ (fun _ _ _ _ => trivial), ht, .inr ⟨rfl, rfl⟩⟩))
    (fun c l u _ _ => (rmap_none fs en gw gh d a nm cnt x2 lf tp s u (by omega) hnm (by omega) h).mono (fun e w' ⟨he, hg⟩ => ⟨none, 0, 0, fun _ => True, he, trivial, fun _ _ _ _ => trivial, DP _ _, hg⟩))
    SZ

theorem vars_over (s : ByteArray) (n : Nat) (nm x2 fs cnt en gw gh d a : Nat) (mp lf tp : Bool) (W : World) (hl : s.size ≤ 900) (hn : n ≤ 255) (hc : cnt ≤ 300) (hnm : nm ≤ 255)
  (KR0 : ∀ u, Calls Tryz.prog 4 #[.string s] u fun e w' => e = .returned (.agg #[.int .i64 nm, .int .i64 (if mp then 1 else 0), .int .i64 x2, .int .i64 fs, .int .i64 cnt, .int .i64 en, .int .i64 gw, .int .i64 gh, .int .i64 d, .int .i64 a, .bool lf, .bool tp, .int .i64 0, .int .i64 0]) ∧ u.grownBy w' none)
  (KH0 : ∀ c l u, Sr.So c l s 0 0 s.size u → Led l LT.ls u → Calls Tryz.prog 8 #[.pointer (some ⟨c, 0, none⟩)] u fun e w' => e = .returned (.tuple #[.agg #[.int .i64 nm, .bool mp, .int .i64 x2, .int .i64 fs, .int .i64 cnt, .int .i64 en, .int .i64 gw, .int .i64 gh, .int .i64 d, .int .i64 a, .bool lf, .bool tp], .agg #[.int .i64 0, .int .i64 0, .int .i64 0]]) ∧ (Sr.So c l s 18 0 s.size w' ∧ Led l (LT.work 1).1.ls w') ∧ Tn u w' [c, l]) (hmp : mp = true) (hx : x2 = 2 ∨ x2 = 10 ∨ x2 = 3 ∨ x2 = 11) (hd : dpB d x2 = true) (ha : alB a d = true) (hen : colB en = true) (h : 18 + nm ≤ s.size) : Calls Tryz.prog 3 #[.string s, .int .u8 n] W fun e w' => e = .returned (.bool true) ∧ W.grownBy w' none := by
  subst hmp
  obtain ⟨sz, C, KD, PL, F, CP, DP, SZ⟩ := both_ex nm x2 fs cnt en gw gh d a true lf tp 1 s (by omega) hx hd ha
  obtain ⟨kd, ez, T, E⟩ := ec_ex en hen
  have hp : ((pln x2 : Int) == 1) = false := by rcases hx with rfl | rfl | rfl | rfl <;> rfl
  have e1 : ((x2 : Int) == 1) = false := by rcases hx with rfl | rfl | rfl | rfl <;> rfl
  have e9 : ((x2 : Int) == 9) = false := by rcases hx with rfl | rfl | rfl | rfl <;> rfl
  obtain ⟨m, hm⟩ : ∃ m, cnt * ez = m := ⟨_, rfl⟩
  have hm4 : m ≤ 1200 := by rw [← hm]; exact Nat.le_trans (Nat.mul_le_mul hc E.s2) (by decide)
  have hmi : (cnt : Int) * (ez : Int) = (m : Int) := by rw [← hm]; exact (Int.natCast_mul _ _).symm
  have hmi' : (ez : Int) * (cnt : Int) = (m : Int) := by rw [Int.mul_comm]; exact hmi
  by_cases hfit : 18 + nm + m ≤ s.size
  · exact files_ok s n nm x2 fs cnt en gw gh d a 1 true lf tp W hl hc KR0 KH0 (18 + nm + m) sz C KD PL false hfit hn F.s4 (by rcases hx with rfl | rfl | rfl | rfl <;> rfl) F.c F.fit F.pl F.cz
      (fun c l u hS hL => (map_over fs cnt en gw gh d a nm x2 lf tp c l s 18 0 s.size _ u hS hL LT_yl.1 (by omega) kd ez m hmi (by omega) (LT_yl.rd (by omega) (by omega)) (LT_yl.step.1.rd (by omega) (by omega)) hp E.ek E.zs).mono (fun e w' ⟨he, ⟨hS', hL'⟩, ht⟩ =>
        ⟨.pointer none, fun _ => True, _, he, hS', LT_yl.step.1.step.1.mono (by decide), hL', trivial, fun _ _ _ _ => trivial, CP c l _ _ (fun _ _ _ _ => trivial), ht, .inr ⟨rfl, rfl⟩⟩))
      (fun c l u _ _ => (rmap_over fs en gw gh d a nm cnt x2 lf tp s u (by omega) hnm (by omega) h kd ez m hmi' (by omega) E.rk E.rz hfit e1 e9).mono (fun e w' ⟨he, hg⟩ => ⟨none, 0, 0, fun _ => True, he, trivial, fun _ _ _ _ => trivial, DP _ _, hg⟩))
      SZ
  · exact files_fail s n nm x2 fs cnt en gw gh d a 1 true lf tp W hl hc KR0 KH0
      (fun c l u hS hL => (map_short fs cnt en gw gh d a nm x2 lf tp c l s 18 0 s.size _ u hS hL LT_yl.1 (by omega) kd ez m hmi (by omega) (LT_yl.rd (by omega) (by omega)) (LT_yl.step.1.no (by omega)) hp E.ek E.zs 1 s.size (if_pos LT_yl.step.1.step.1.2.1)).mono (fun e w' ⟨he, ⟨_, hl⟩, ht⟩ => ⟨he, ⟨_, hl, rfl⟩, ht⟩))
      (fun u => rmap_short fs en gw gh d a nm cnt x2 lf tp s u (by omega) hnm (by omega) h kd ez m hmi' (by omega) E.rk E.rz (by omega))

theorem ca_tn {g n : Nat} {D : Nat → Nat → Int} {u u' : World} {S : List Nat} (h : ColsAt g 0 n D u) (t : Tn u u' S) (hg : g ∉ S) : ColsAt g 0 n D u' := fun i hi j hj =>
  (World.cell?_of_block (t.block g (World.block_lt_of_cell? u _ (h i hi j hj)) hg)).trans (h i hi j hj)
theorem vars_mapped (s : ByteArray) (n : Nat) (nm x2 fs cnt en gw gh d a : Nat) (mp lf tp : Bool) (W : World) (hl : s.size ≤ 900) (hn : n ≤ 255) (hc : cnt ≤ 300) (hnm : nm ≤ 255)
  (KR0 : ∀ u, Calls Tryz.prog 4 #[.string s] u fun e w' => e = .returned (.agg #[.int .i64 nm, .int .i64 (if mp then 1 else 0), .int .i64 x2, .int .i64 fs, .int .i64 cnt, .int .i64 en, .int .i64 gw, .int .i64 gh, .int .i64 d, .int .i64 a, .bool lf, .bool tp, .int .i64 0, .int .i64 0]) ∧ u.grownBy w' none)
  (KH0 : ∀ c l u, Sr.So c l s 0 0 s.size u → Led l LT.ls u → Calls Tryz.prog 8 #[.pointer (some ⟨c, 0, none⟩)] u fun e w' => e = .returned (.tuple #[.agg #[.int .i64 nm, .bool mp, .int .i64 x2, .int .i64 fs, .int .i64 cnt, .int .i64 en, .int .i64 gw, .int .i64 gh, .int .i64 d, .int .i64 a, .bool lf, .bool tp], .agg #[.int .i64 0, .int .i64 0, .int .i64 0]]) ∧ (Sr.So c l s 18 0 s.size w' ∧ Led l (LT.work 1).1.ls w') ∧ Tn u w' [c, l]) (hmp : mp = true) (hx : x2 = 1 ∨ x2 = 9) (hd : d = 8) (hfs : fs ≤ 65535) (hen : colB en = true) (hc1 : 1 ≤ cnt) (h : 18 + nm ≤ s.size) : Calls Tryz.prog 3 #[.string s, .int .u8 n] W fun e w' => e = .returned (.bool true) ∧ W.grownBy w' none := by
  subst hmp
  obtain ⟨kd, ez, T, E⟩ := ec_ex en hen
  have ht : x2 < 256 := by omega
  have hp1 : pln x2 = 1 := by rcases hx with rfl | rfl <;> rfl
  obtain ⟨m, hm⟩ : ∃ m, cnt * ez = m := ⟨_, rfl⟩
  have hm4 : m ≤ 1200 := by rw [← hm]; exact Nat.le_trans (Nat.mul_le_mul hc E.s2) (by decide)
  have hmi : (cnt : Int) * (ez : Int) = (m : Int) := by rw [← hm]; exact (Int.natCast_mul _ _).symm
  have hmi' : (ez : Int) * (cnt : Int) = (m : Int) := by rw [Int.mul_comm]; exact hmi
  obtain ⟨D, hD⟩ : ∃ D : Nat → Nat → Int, D = fun k j => entAt T s (18 + nm + k * ez) j := ⟨_, rfl⟩
  have hDk : ∀ k j, D k j = entAt T s (18 + nm + k * ez) j := fun k j => by rw [hD]
  have hDb : ∀ k j, 0 ≤ D k j ∧ D k j ≤ 255 := fun k j => by rw [hDk]; exact entAt_bd _ _ _ _
  clear hD
  have L1 := LT_yl
  obtain ⟨X1, hX1⟩ : ∃ X, (LT.work 1).1 = X := ⟨_, rfl⟩
  have hb1 : X1.by_ = 0 ∧ X1.b = 2000 := by rw [← hX1]; exact ⟨rfl, rfl⟩
  rw [hX1] at L1
  have L2 := L1.step.1
  obtain ⟨X2, hX2⟩ : ∃ X, (X1.work 1).1 = X := ⟨_, rfl⟩
  have hb2 : X2.by_ = 0 ∧ X2.b = 2000 := by rw [← hX2, ← hX1]; exact ⟨rfl, rfl⟩
  rw [hX2] at L2
  have h4 : 4 * cnt ≤ 1200 := by omega
  have TK := take_y L2 (4 * cnt) (by omega)
  obtain ⟨Y, hY⟩ : ∃ Y, (X2.take ((4 * cnt : Nat) : Int)).1 = Y := ⟨_, rfl⟩
  have LY : YL 9998 Y := by rw [← hY]; exact TK.2.1
  have hYb : Y.by_ = ((4 * cnt : Nat) : Int) := by rw [← hY, TK.2.2]; omega
  have hrd : ∀ k, (k + 1) * ez ≤ s.size - (18 + nm) → k < cnt → Sr.rdB (Rg.wk Y k) (18 + nm + k * ez) s.size ez = true := fun k hk hkc => by
    have hw : YL (9697 + 1) (Rg.wk Y k) := YL.wk k (LY.mono (by omega))
    have e : (k + 1) * ez = k * ez + ez := Nat.succ_mul _ _
    exact hw.rd (by omega) (by omega)
  by_cases hfit : 18 + nm + m ≤ s.size
  · have hk2 : ∀ k, k < cnt → Sr.rdB (Rg.wk Y k) (18 + nm + k * ez) s.size ez = true := fun k hk => hrd k (Nat.le_trans (Nat.mul_le_mul hk (Nat.le_refl ez)) (by rw [hm]; omega)) hk
    have F := pf_map s fs cnt D hDb
    have SZ : ∀ u, Calls Tryz.prog 15 #[.agg #[.int .i64 nm, .int .i64 1, .int .i64 x2, .int .i64 fs, .int .i64 cnt, .int .i64 en, .int .i64 gw, .int .i64 gh, .int .i64 d, .int .i64 a, .bool lf, .bool tp, .int .i64 0, .int .i64 0]] u fun e w' => e = .returned (.int .i64 ((1 : Nat) : Int)) ∧ u.grownBy w' none := by
      subst hd
      exact fun u => rs_8 nm 1 fs cnt en gw gh a x2 lf tp u
    refine files_ok s n nm x2 fs cnt en gw gh d a 1 true lf tp W hl hc KR0 KH0 (18 + nm + m) 1 (mC s fs cnt D) (mK s fs cnt) (mP s fs cnt) true hfit hn F.s4 (by rcases hx with rfl | rfl <;> rfl) F.c F.fit F.pl F.cz ?_ ?_ SZ
    · intro c l u hS hL
      rw [hX1] at hL
      have K := map_mapped fs cnt en gw gh d a nm x2 true lf tp c l s 18 0 s.size X1 u hS hL L1.1 ht ez cnt Y D (L1.rd (by omega) (by omega)) hp1 (fun u hS hL => by
        rw [hX2] at hL
        have K := entries_yes nm fs en gw gh d a cnt x2 true lf tp c l s (18 + nm) 0 s.size ez cnt X2 kd D u hS hL L2.1 hc1 (by omega) TK.1 E.ek (by
          rw [hY]
          exact E.rd c l s (18 + nm) 0 s.size cnt cnt Y D LY.1 (by omega) hc1 (fun k _ j _ => hDk k j) (Nat.le_refl _) hk2 (.inl rfl))
        rw [hY] at K
        exact K)
      refine K.mono (fun e w' ⟨p, q, g, S, he, ⟨hP, hE, hL', hS'⟩, ht', gp, gq, gg⟩ => ?_)
      have hcl : c < u.heap.size := hS.lt
      have hll : l < u.heap.size := hL.lt
      rw [hm] at hS'
      exact ⟨.pointer (some ⟨p, 0, none⟩), fun u => Po p q l g cnt cnt S u, _, he, hS', YL.wk cnt (LY.mono (by omega)), hL', hP, fun u u' h t => Rg.po_turned h t (by simp; omega) (by simp; omega) (by simp; omega),
        code_map nm x2 fs cnt en gw gh d a true lf tp c l p q g s S D hp1 ht hfs hE ⟨by omega, by omega⟩ ⟨by omega, by omega⟩ ⟨by omega, by omega⟩, ht', .inl ⟨rfl, p, rfl⟩⟩
    · intro c l u hcl hll
      have KD : ∀ u, Calls Tryz.prog 31 #[.string (s.extract (18 + nm) s.size), .int .i64 cnt, .int .i64 kd] u (RReadPost u T ez cnt (s.extract (18 + nm) s.size)) := fun u => E.rr _ cnt u (by rw [ByteArray.size_extract]; omega) (by omega) (by rw [hm, ByteArray.size_extract]; omega)
      rcases hx with rfl | rfl
      · refine (rmap_in1 fs en gw gh d a nm cnt lf tp s u (by omega) hnm (by omega) T D h kd ez m hmi' (by omega) E.rk E.rz hfit hc1 (fun i _ j _ => hDk i j) KD).mono (fun e w' ⟨g, cap, he, hC, hcap, hug, hg⟩ => ?_)
        exact ⟨some ⟨g, 0, none⟩, cnt, cap, fun u => ColsAt g 0 cnt D u, he, hC, fun u u' h t i hi j hj => ca_tn h t (by simp; omega) i hi j hj, doc_map1 nm fs cnt en gw gh d a 1 lf tp s g cap D (by omega) hd hfs hcap, hg⟩
      · refine (rmap_in9 fs en gw gh d a nm cnt lf tp s u (by omega) hnm (by omega) T D h kd ez m hmi' (by omega) E.rk E.rz hfit hc1 (fun i _ j _ => hDk i j) KD).mono (fun e w' ⟨g, cap, he, hC, hcap, hug, hg⟩ => ?_)
        exact ⟨some ⟨g, 0, none⟩, cnt, cap, fun u => ColsAt g 0 cnt D u, he, hC, fun u u' h t i hi j hj => ca_tn h t (by simp; omega) i hi j hj, doc_map9 nm fs cnt en gw gh d a 1 lf tp s g cap D (by omega) hd hfs hcap, hg⟩
  · obtain ⟨K, hK⟩ : ∃ K, (s.size - (18 + nm)) / ez = K := ⟨_, rfl⟩
    have hez := E.s1
    have hK1 : K * ez ≤ s.size - (18 + nm) := by rw [← hK]; exact Nat.div_mul_le_self _ _
    have hK2 : s.size - (18 + nm) < (K + 1) * ez := by rw [← hK]; exact by have := Nat.lt_mul_div_succ (s.size - (18 + nm)) (show 0 < ez by omega); rw [Nat.mul_comm] at this; exact this
    have hKc : K < cnt := by
      rcases Nat.lt_or_ge K cnt with h' | h'
      · exact h'
      · have := Nat.mul_le_mul h' (Nat.le_refl ez)
        rw [hm] at this
        omega
    have eK : (K + 1) * ez = K * ez + ez := Nat.succ_mul _ _
    have hwK : YL (9697 + 1) (Rg.wk Y K) := YL.wk K (LY.mono (by omega))
    have hno : Sr.rdB (Rg.wk Y K) (18 + nm + K * ez) s.size ez = false := hwK.no (by omega)
    have hk2 : ∀ k, k < K → Sr.rdB (Rg.wk Y k) (18 + nm + k * ez) s.size ez = true := fun k hk => hrd k (Nat.le_trans (Nat.mul_le_mul hk (Nat.le_refl ez)) hK1) (by omega)
    have hgb : (Rg.wk Y (K + 1)).by_ = ((4 * cnt : Nat) : Int) := by rw [wk_by, hYb]
    have hgr : (Rg.wk Y (K + 1)).r = 0 := wk_r (m := 1) (K + 1) (LY.mono (by omega))
    have GV := give_y (4 * cnt) hgb
    refine files_fail s n nm x2 fs cnt en gw gh d a 1 true lf tp W hl hc KR0 KH0 ?_ (fun u => rmap_short fs en gw gh d a nm cnt x2 lf tp s u (by omega) hnm (by omega) h kd ez m hmi' (by omega) E.rk E.rz (by omega))
    intro c l u hS hL
    rw [hX1] at hL
    have KK := map_wanted fs cnt en gw gh d a nm x2 true lf tp c l s 18 0 s.size X1 u hS hL L1.1 ht ez cnt K Y 1 s.size (L1.rd (by omega) (by omega)) hp1 (fun u hS hL => by
      rw [hX2] at hL
      have KK := entries_short nm fs en gw gh d a cnt x2 true lf tp c l s (18 + nm) 0 s.size ez K X2 kd D u hS hL L2.1 hc1 (by omega) TK.1 E.ek 1 s.size hKc (by rw [hY]; exact if_pos (GV.2.trans hgr)) (by
        rw [hY]
        exact E.rd c l s (18 + nm) 0 s.size cnt K Y D LY.1 (by omega) hc1 (fun k _ j _ => hDk k j) (by omega) hk2 (.inr hno))
      rw [hY] at KK
      exact KK)
    exact KK.mono (fun e w' ⟨he, ⟨hl', _⟩, ht'⟩ => ⟨he, ⟨_, hl', GV.1⟩, ht'⟩)

theorem bn_ext (s : ByteArray) (h : 18 ≤ s.size) (i : Nat) (hi : i < 18) : bn (s.extract 0 18) i = bn s i := by
  unfold bn
  rw [Lib.extract_data, List.getD_eq_getElem?_getD, List.getD_eq_getElem?_getD, List.getElem?_take_of_lt (by omega), List.getElem?_drop, Nat.zero_add]
theorem wd_ext (s : ByteArray) (h : 18 ≤ s.size) (i : Nat) (hi : i + 1 < 18) : wd (s.extract 0 18) i = wd s i := by
  unfold wd
  rw [bn_ext s h i (by omega), bn_ext s h (i + 1) hi]
theorem mp_ext (s : ByteArray) (h : 18 ≤ s.size) : mpB (s.extract 0 18) = mpB s := by
  unfold mpB
  rw [bn_ext s h 1 (by decide)]
theorem hA_ext (s : ByteArray) (h : 18 ≤ s.size) : hA (s.extract 0 18) = hA s := by
  unfold hA fst cnt ent alp lft tpp
  rw [mp_ext s h, bn_ext s h 0 (by decide), bn_ext s h 2 (by decide), bn_ext s h 7 (by decide), bn_ext s h 16 (by decide), bn_ext s h 17 (by decide), wd_ext s h 3 (by decide), wd_ext s h 5 (by decide), wd_ext s h 12 (by decide), wd_ext s h 14 (by decide)]
theorem ck_ext (s : ByteArray) (h : 18 ≤ s.size) (C : Ck s 12) : Ck (s.extract 0 18) 12 := by
  refine ⟨Nat.le_refl _, rfl, fun j hj => ?_⟩
  rw [← C.no j hj]
  obtain rfl | rfl | rfl | rfl | rfl | rfl | rfl | rfl | rfl | rfl | rfl | rfl : j = 0 ∨ j = 1 ∨ j = 2 ∨ j = 3 ∨ j = 4 ∨ j = 5 ∨ j = 6 ∨ j = 7 ∨ j = 8 ∨ j = 9 ∨ j = 10 ∨ j = 11 := by omega
  all_goals
    simp only [ck]
    try rw [mp_ext s h]
    try rw [bn_ext s h 1 (by decide)]
    try rw [bn_ext s h 2 (by decide)]
    try rw [bn_ext s h 7 (by decide)]
    try rw [bn_ext s h 16 (by decide)]
    try rw [bn_ext s h 17 (by decide)]
    try rw [wd_ext s h 5 (by decide)]
    try rw [wd_ext s h 12 (by decide)]
    try rw [wd_ext s h 14 (by decide)]

/-- The law of layer 17. -/
theorem files_any (s : ByteArray) (n : Int) (hn0 : 0 ≤ n) (hn1 : n ≤ 255) (W : World) (hm : s.size ≤ 9223372036854775807) :
    Calls Tryz.prog 3 #[.string s, .int .u8 n] W fun e w' => e = .returned (.bool true) ∧ W.grownBy w' none := by
  obtain ⟨n, rfl⟩ : ∃ k : Nat, n = k := ⟨n.toNat, by omega⟩
  by_cases h18 : s.size < 18
  · exact files_bad s n 1 s.size W rfl hm (fun u => read_short s u h18)
  have h18 : 18 ≤ s.size := by omega
  obtain ⟨K, C⟩ := ck_ex s
  by_cases hK : K < 12
  · exact files_bad s n (kdK K) (plK K) W (kd_ne K hK) hm (fun u => read_bad s u h18 hm K C hK)
  obtain rfl : K = 12 := by have := C.le; omega
  have KR : ∀ u, Calls Tryz.prog 4 #[.string s] u fun e w' => e = .returned (.agg (rGood s)) ∧ u.grownBy w' none := fun u => read_good s u h18 hm C
  unfold rGood at KR
  have hct : cnt s ≤ 65535 := by unfold cnt; split; have := wd_lt s 5; omega; omega
  by_cases hfar : 900 < s.size ∨ 300 < cnt s
  · exact files_far s n (bn s 0) (bn s 2) (fst s) (cnt s) (ent s) (wd s 12) (wd s 14) (bn s 16) (alp s) _ (lft s) (tpp s) W hfar hm KR
  have hl : s.size ≤ 900 := by omega
  have hc : cnt s ≤ 300 := by omega
  have hz : (s.extract 0 18).size = 18 := by rw [ByteArray.size_extract]; omega
  have hLT : YL 10000 LT := ⟨⟨by decide, by decide, by decide, by decide, by decide, by decide, by decide, by decide, by decide, by decide, by decide, by decide, by decide⟩, by decide, by decide⟩
  have KH : ∀ c l u, Sr.So c l s 0 0 s.size u → Led l LT.ls u → Calls Tryz.prog 8 #[.pointer (some ⟨c, 0, none⟩)] u fun e w' => e = .returned (.tuple #[.agg (hA s), .agg #[.int .i64 0, .int .i64 0, .int .i64 0]]) ∧ (Sr.So c l s 18 0 s.size w' ∧ Led l (LT.work 1).1.ls w') ∧ Tn u w' [c, l] := fun c l u hS hL => by
    have K := thead_good c l s (s.extract 0 18) 0 0 s.size LT u hS hL hLT.1 (YL.rd (m := 9999) hLT (by omega) (by omega)) rfl hz (ck_ext s h18 C)
    rw [hA_ext s h18, Nat.zero_add] at K
    exact K
  unfold hA at KH
  have ht : typB (bn s 2) = true := by have h := C.no 1 (by omega); simp only [ck] at h; simpa using h
  have ht : 1 ≤ pln (bn s 2) ∧ pln (bn s 2) ≤ 3 := of_decide_eq_true ht
  have h2 : bn s 2 = 1 ∨ bn s 2 = 2 ∨ bn s 2 = 3 ∨ bn s 2 = 9 ∨ bn s 2 = 10 ∨ bn s 2 = 11 := by unfold pln at ht; split at ht <;> omega
  have hd : dpB (bn s 16) (bn s 2) = true := by have h := C.no 9 (by omega); simp only [ck] at h; simpa using h
  have ha : alB (alp s) (bn s 16) = true := by have h := C.no 11 (by omega); simp only [ck] at h; unfold alp; simpa using h
  have hm2 : pln (bn s 2) = 1 → mpB s = true := fun hp => by
    have h := C.no 2 (by omega)
    simp only [ck, hp] at h
    simpa using h
  have hen : mpB s = true → colB (ent s) = true := fun hp => by
    have h := C.no 3 (by omega)
    simp only [ck, hp] at h
    unfold ent
    rw [if_pos hp]
    simpa using h
  have hc1 : mpB s = true → 1 ≤ cnt s := fun hp => by
    have h := C.no 4 (by omega)
    simp only [ck, hp] at h
    unfold cnt
    rw [if_pos hp]
    simp at h
    omega
  have hnm : bn s 0 ≤ 255 := by have := bn_lt s 0; omega
  have hfs : fst s ≤ 65535 := by unfold fst; split; have := wd_lt s 3; omega; omega
  have hx256 := bn_lt s 2
  by_cases h : s.size < 18 + bn s 0
  · exact vars_name s n (bn s 0) (bn s 2) (fst s) (cnt s) (ent s) (wd s 12) (wd s 14) (bn s 16) (alp s) (mpB s) (lft s) (tpp s) W hl hc hnm KR KH hx256 h
  have h : 18 + bn s 0 ≤ s.size := by omega
  by_cases hp1 : pln (bn s 2) = 1
  · have hx : bn s 2 = 1 ∨ bn s 2 = 9 := by unfold pln at hp1; split at hp1 <;> omega
    have hd8 : bn s 16 = 8 := by unfold dpB at hd; rw [if_neg (by omega)] at hd; exact of_decide_eq_true hd
    exact vars_mapped s n (bn s 0) (bn s 2) (fst s) (cnt s) (ent s) (wd s 12) (wd s 14) (bn s 16) (alp s) (mpB s) (lft s) (tpp s) W hl (by omega) hc hnm KR KH (hm2 hp1) hx hd8 hfs (hen (hm2 hp1)) (hc1 (hm2 hp1)) h
  · have hx : bn s 2 = 2 ∨ bn s 2 = 10 ∨ bn s 2 = 3 ∨ bn s 2 = 11 := by
      rcases h2 with h2 | h2 | h2 | h2 | h2 | h2
      · exact absurd (by rw [h2]; rfl) hp1
      · exact .inl h2
      · exact .inr (.inr (.inl h2))
      · exact absurd (by rw [h2]; rfl) hp1
      · exact .inr (.inl h2)
      · exact .inr (.inr (.inr h2))
    cases hmp : mpB s with
    | false => exact vars_none s n (bn s 0) (bn s 2) (fst s) (cnt s) (ent s) (wd s 12) (wd s 14) (bn s 16) (alp s) (mpB s) (lft s) (tpp s) W hl (by omega) hc hnm KR KH hmp hx hd ha h
    | true => exact vars_over s n (bn s 0) (bn s 2) (fst s) (cnt s) (ent s) (wd s 12) (wd s 14) (bn s 16) (alp s) (mpB s) (lft s) (tpp s) W hl (by omega) hc hnm KR KH hmp hx hd ha (hen hmp) h

end Go.Proofs.YtgkeopgccocmkaaGreat.Tp
