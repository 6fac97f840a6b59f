/- Texts of one kind, one behind the other: TpA, TpG, Tr1, Tr2. -/
import Derived.BigQuiet
import Derived.Deep.QuietTactic
import Derived.Test.YtnieeckdldpebaaGreatG20
import Derived.Test.YtnieeckdldpebaaGreatG26
import Derived.Test.YtnieeckdldpebaaGreatG29
import Derived.Test.YtnieeckdldpebaaGreatG32
/- Layer 17: a pixel as the code and as the document tell it (written by wip/gen/tpa.py). -/
namespace Go.Proofs.YtnieeckdldpebaaGreat.Tp
open Go.ChangeShapes Go.WideShapes Go.ChangeAt Go.RowKit
open Go.Proofs.YtnieeckdldpebaaGreat.Sc Go.Proofs.YtnieeckdldpebaaGreat.Le Go.Proofs.YtnieeckdldpebaaGreat.Pa Go.Proofs.YtnieeckdldpebaaGreat.Tg
set_option linter.unusedVariables false

/-- m further steps may be done; nothing was refused. -/
def YL (m : Nat) (y : St) : Prop := y.Ok ∧ y.r = 0 ∧ y.st + m ≤ y.s
theorem YL.step {m : Nat} {y : St} (h : YL (m + 1) y) : YL m (y.work 1).1 ∧ (y.work 1).2 = true := by
  obtain ⟨h1, h2, h3⟩ := h
  have e : y.work 1 = ({ y with st := y.st + 1 }, true) := by
    unfold St.work
    rw [if_neg (by simpa using h2), if_neg (by omega)]
  rw [e]
  refine ⟨⟨?_, h2, ?_⟩, rfl⟩
  · have := h1.work 1; rwa [e] at this
  · show y.st + 1 + m ≤ y.s; omega
theorem YL.rd {m : Nat} {y : St} (h : YL (m + 1) y) {p t : Nat} {n : Int} (h0 : 0 ≤ n) (h1 : n ≤ (t : Int) - p) : Sr.rdB y p t n = true := by
  unfold Sr.rdB Sr.canB
  rw [h.step.2]
  simp [h0, h1]
theorem YL.no {m : Nat} {y : St} (h : YL (m + 1) y) {p t : Nat} {n : Int} (h1 : (t : Int) - p < n) : Sr.rdB y p t n = false := by
  unfold Sr.rdB Sr.canB
  rw [h.step.2]
  simp
  intro; omega
theorem YL.wk {m : Nat} {y : St} : ∀ k, YL (m + k) y → YL m (Rg.wk y k)
  | 0, h => h
  | k + 1, h => by
    have := YL.wk (m := m + 1) k (by rw [show m + 1 + k = m + (k + 1) from by omega]; exact h)
    exact this.step.1
theorem YL.mono {m n : Nat} {y : St} (h : YL m y) (hn : n ≤ m) : YL n y := ⟨h.1, h.2.1, by have := h.2.2; omega⟩

/-- What the document's Pixel tells, at all places. -/
def DocPix (s : ByteArray) (H : Array Value) (lv : Value) (Q : World → Prop) (C : Nat → Nat → Int) (KD PL : Nat → Int) : Prop :=
  ∀ (o : Nat) (u : World), o ≤ s.size → Q u → Calls Tryz.prog 63 #[.string s, .int .i64 o, .agg H, lv] u fun e w' =>
    e = .returned (.tuple #[.agg #[.int .u8 (C o 0), .int .u8 (C o 1), .int .u8 (C o 2), .int .u8 (C o 3)], .int .i64 (KD o), .int .i64 (PL o)]) ∧ u.grownBy w' none

def inC (s : ByteArray) (sz : Nat) (c : Nat → Nat → Int) (o j : Nat) : Int := if o + sz ≤ s.size then c o j else 0
def inK (s : ByteArray) (sz : Nat) (o : Nat) : Int := if o + sz ≤ s.size then 0 else 1
def inP (s : ByteArray) (sz : Nat) (o : Nat) : Int := if o + sz ≤ s.size then 0 else s.size
/-- An entry's number at a place: what comes of it. -/
def mOk (s : ByteArray) (fs cnt o : Nat) : Prop := fs ≤ bn s o ∧ bn s o - fs < cnt
instance (s : ByteArray) (fs cnt o : Nat) : Decidable (mOk s fs cnt o) := by unfold mOk; infer_instance
def mC (s : ByteArray) (fs cnt : Nat) (D : Nat → Nat → Int) (o j : Nat) : Int := if o + 1 ≤ s.size then (if mOk s fs cnt o then D (bn s o - fs) j else 0) else 0
theorem doc_in (nm x2 fs cnt en gw gh d a : Nat) (mi : Int) (lf tp : Bool) (sz : Nat) (s : ByteArray) (lv : Value) (Q : World → Prop) (c : Nat → Nat → Int) (hsz : sz ≤ 4) (hm : s.size ≤ 1000000)
    (KS : ∀ u, Calls Tryz.prog 62 #[.agg #[.int .i64 nm, .int .i64 mi, .int .i64 x2, .int .i64 fs, .int .i64 cnt, .int .i64 en, .int .i64 gw, .int .i64 gh, .int .i64 d, .int .i64 a, .bool lf, .bool tp, .int .i64 0, .int .i64 0]] u fun e w' => e = .returned (.int .i64 sz) ∧ u.grownBy w' none)
    (KP : ∀ o u, o + sz ≤ s.size → Q u → Calls Tryz.prog 63 #[.string s, .int .i64 o, .agg #[.int .i64 nm, .int .i64 mi, .int .i64 x2, .int .i64 fs, .int .i64 cnt, .int .i64 en, .int .i64 gw, .int .i64 gh, .int .i64 d, .int .i64 a, .bool lf, .bool tp, .int .i64 0, .int .i64 0], lv] u fun e w' => e = .returned (.tuple #[.agg #[.int .u8 (c o 0), .int .u8 (c o 1), .int .u8 (c o 2), .int .u8 (c o 3)], .int .i64 0, .int .i64 0]) ∧ u.grownBy w' none) :
    DocPix s #[.int .i64 nm, .int .i64 mi, .int .i64 x2, .int .i64 fs, .int .i64 cnt, .int .i64 en, .int .i64 gw, .int .i64 gh, .int .i64 d, .int .i64 a, .bool lf, .bool tp, .int .i64 0, .int .i64 0] lv Q (inC s sz c) (inK s sz) (inP s sz) := by
  intro o u ho hQ
  unfold inC inK inP
  by_cases hin : o + sz ≤ s.size
  · simp only [if_pos hin]
    exact KP o u hin hQ
  · simp only [if_neg hin]
    exact rPixel_no nm mi fs cnt en gw gh d a x2 lf tp s o sz lv (by omega) u (by omega) ho hsz (by omega) KS

end Go.Proofs.YtnieeckdldpebaaGreat.Tp

/- Layer 17: classes of entries, of pixels (written by wip/gen/tr1.py). -/
namespace Go.Proofs.YtnieeckdldpebaaGreat.Tp
open Go.ChangeShapes Go.WideShapes Go.ChangeAt Go.RowKit
open Go.Proofs.YtnieeckdldpebaaGreat.Sc Go.Proofs.YtnieeckdldpebaaGreat.Le Go.Proofs.YtnieeckdldpebaaGreat.Pa Go.Proofs.YtnieeckdldpebaaGreat.Tg
set_option linter.unusedVariables false

/-- Entries of so many bits: what the code and the document do with them. -/
structure EC (en kd sz T : Nat) : Prop where
  ek : ∀ u, Calls Tryz.prog 101 #[.int .i64 en] u fun e w' => e = .returned (.int .i64 kd) ∧ u = w'
  rk : ∀ u, Calls Tryz.prog 59 #[.int .i64 en] u fun e w' => e = .returned (.int .i64 kd) ∧ u = w'
  zs : ∀ u, Calls Tryz.prog 100 #[.int .i64 kd] u fun e w' => e = .returned (.int .i64 sz) ∧ u.grownBy w' none
  rz : ∀ u, Calls Tryz.prog 60 #[.int .i64 kd] u fun e w' => e = .returned (.int .i64 sz) ∧ u = w'
  s1 : 2 ≤ sz
  s2 : sz ≤ 4
  rd : ∀ (b l : Nat) (s : ByteArray) (o f t cnt K : Nat) (Y : St) (D : Nat → Nat → Int), Y.Ok → cnt ≤ 65535 → 1 ≤ cnt → (∀ k, k < K → ∀ j, j < 4 → D k j = entAt T s (o + k * sz) j) → K ≤ cnt → (∀ k, k < K → Sr.rdB (Rg.wk Y k) (o + k * sz) t sz = true) → (K = cnt ∨ Sr.rdB (Rg.wk Y K) (o + K * sz) t sz = false) → KR b l s o f t sz cnt K kd Y D
  rr : ∀ (v : ByteArray) (N : Nat) u, v.size ≤ 1000000 → N ≤ 100000 → N * sz ≤ v.size → Calls Tryz.prog 61 #[.string v, .int .i64 N, .int .i64 kd] u (RReadPost u T sz N v)
theorem kr_zero {K : Nat} {D : Nat → Nat → Int} {T : Nat} {s : ByteArray} {o sz : Nat} (h : ∀ k, k < K → ∀ j, j < 4 → D k j = entAt T s (o + k * sz) j) : ∀ k, k < K → ∀ j, j < 4 → D (0 + k) j = entAt T s (o + k * sz) j := fun k hk j hj => by rw [Nat.zero_add]; exact h k hk j hj
theorem ent_0 {S : ByteArray} {D : Nat → Nat → Int} : EntOf S 0 D := fun i hi => absurd hi (by omega)

theorem ec_15 : EC 15 2 2 0 where
  ek := ek_15
  rk := rk_15
  zs := fun u => size_yes 0 2 u (by decide) (by decide)
  rz := fun u => rsize_calls 2 u
  s1 := by decide
  s2 := by decide
  rd := fun b l s o f t cnt K Y D ok hc c1 hD k1 k2 k3 p q g S u hP hS hL n1 n2 n3 => Rg.read_0 p q l g b 0 cnt cnt K S s o f t Y D u hP ent_0 c1 (by omega) hS hL ok (by omega) n1 n2 n3 (kr_zero hD) k1 k2 k3
  rr := fun v N u h1 h2 h3 => rread_0 v N N u h1 h2 (Nat.le_refl _) h3 (.inl rfl)

theorem ec_16 : EC 16 2 2 0 where
  ek := ek_16
  rk := rk_16
  zs := fun u => size_yes 0 2 u (by decide) (by decide)
  rz := fun u => rsize_calls 2 u
  s1 := by decide
  s2 := by decide
  rd := fun b l s o f t cnt K Y D ok hc c1 hD k1 k2 k3 p q g S u hP hS hL n1 n2 n3 => Rg.read_0 p q l g b 0 cnt cnt K S s o f t Y D u hP ent_0 c1 (by omega) hS hL ok (by omega) n1 n2 n3 (kr_zero hD) k1 k2 k3
  rr := fun v N u h1 h2 h3 => rread_0 v N N u h1 h2 (Nat.le_refl _) h3 (.inl rfl)

theorem ec_24 : EC 24 3 3 1 where
  ek := ek_24
  rk := rk_24
  zs := fun u => size_yes 1 3 u (by decide) (by decide)
  rz := fun u => rsize_calls 3 u
  s1 := by decide
  s2 := by decide
  rd := fun b l s o f t cnt K Y D ok hc c1 hD k1 k2 k3 p q g S u hP hS hL n1 n2 n3 => Rg.read_1 p q l g b 0 cnt cnt K S s o f t Y D u hP ent_0 c1 (by omega) hS hL ok (by omega) n1 n2 n3 (kr_zero hD) k1 k2 k3
  rr := fun v N u h1 h2 h3 => rread_1 v N N u h1 h2 (Nat.le_refl _) h3 (.inl rfl)

theorem ec_32 : EC 32 5 4 3 where
  ek := ek_32
  rk := rk_32
  zs := fun u => size_yes 3 5 u (by decide) (by decide)
  rz := fun u => rsize_calls 5 u
  s1 := by decide
  s2 := by decide
  rd := fun b l s o f t cnt K Y D ok hc c1 hD k1 k2 k3 p q g S u hP hS hL n1 n2 n3 => Rg.read_3 p q l g b 0 cnt cnt K S s o f t Y D u hP ent_0 c1 (by omega) hS hL ok (by omega) n1 n2 n3 (kr_zero hD) k1 k2 k3
  rr := fun v N u h1 h2 h3 => rread_3 v N N u h1 h2 (Nat.le_refl _) h3 (.inl rfl)

theorem ec_ex (en : Nat) (h : colB en = true) : ∃ kd sz T, EC en kd sz T := by
  have h : en = 15 ∨ en = 16 ∨ en = 24 ∨ en = 32 := of_decide_eq_true h
  rcases h with rfl | rfl | rfl | rfl
  · exact ⟨_, _, _, ec_15⟩
  · exact ⟨_, _, _, ec_16⟩
  · exact ⟨_, _, _, ec_24⟩
  · exact ⟨_, _, _, ec_32⟩

theorem pxA_bd (d a : Nat) (s : ByteArray) (o : Nat) : 0 ≤ pxA d a s o ∧ pxA d a s o ≤ 255 := by
  unfold pxA
  split
  · split <;> decide
  · split
    · decide
    · exact entAt_bd _ _ _ _
def cC (T d a : Nat) (s : ByteArray) (o j : Nat) : Int := if j = 3 then pxA d a s o else entAt T s o j
theorem cC_bd (T d a : Nat) (s : ByteArray) (o j : Nat) : 0 ≤ cC T d a s o j ∧ cC T d a s o j ≤ 255 := by
  unfold cC
  split
  · exact pxA_bd _ _ _ _
  · exact entAt_bd _ _ _ _
def cG (s : ByteArray) (o j : Nat) : Int := if j = 3 then 255 else (bn s o : Nat)
theorem cG_bd (s : ByteArray) (o j : Nat) : 0 ≤ cG s o j ∧ cG s o j ≤ 255 := by
  have := bn_lt s o
  unfold cG
  split
  · decide
  · omega

end Go.Proofs.YtnieeckdldpebaaGreat.Tp

/- Layer 17: a pixel as the code tells it by any ledger, and as the document does (written by wip/gen/tr1.py). -/
namespace Go.Proofs.YtnieeckdldpebaaGreat.Tr
open Go.ChangeShapes Go.WideShapes Go.ChangeAt Go.RowKit
open Go.Proofs.YtnieeckdldpebaaGreat.Sc Go.Proofs.YtnieeckdldpebaaGreat.Le Go.Proofs.YtnieeckdldpebaaGreat.Pa Go.Proofs.YtnieeckdldpebaaGreat.Tk Go.Proofs.YtnieeckdldpebaaGreat.Tg Go.Proofs.YtnieeckdldpebaaGreat.Tp
set_option linter.unusedVariables false

def colV (C : Nat → Nat → Int) (o : Nat) : Value := .agg #[.int .u8 (C o 0), .int .u8 (C o 1), .int .u8 (C o 2), .int .u8 (C o 3)]
def noV : Value := .agg #[.int .u8 0, .int .u8 0, .int .u8 0, .int .u8 0]
def flT (k a : Int) : Value := .agg #[.int .i64 k, .int .i64 2, .int .i64 a]
def okT : Value := .agg #[.int .i64 0, .int .i64 0, .int .i64 0]
/-- Behind Pixel, by any ledger. -/
def PO (W : World) (b l : Nat) (s : ByteArray) (sz : Nat) (P : World → Prop) (C : Nat → Nat → Int) (KD PL : Nat → Nat) (o : Nat) (x : St) (e : Ending) (w' : World) : Prop :=
  Tn W w' [b, l] ∧ P w' ∧ ((KD o = 0 ∧ x.st + 1 ≤ x.s ∧ e = .returned (.tuple #[colV C o, okT]) ∧ Rd b l s (o + sz) (stp x 1) w') ∨
    (∃ (k a : Int) (q : Nat) (y : St), EB s x (KD o) (PL o) 1 k a q y ∧ e = .returned (.tuple #[noV, flT k a]) ∧ Rd b l s q y w'))
def CodeR (b l : Nat) (s : ByteArray) (sz : Nat) (H : Array Value) (pv : Value) (P : World → Prop) (C : Nat → Nat → Int) (KD PL : Nat → Nat) : Prop :=
  ∀ (o : Nat) (x : St) (u : World), o ≤ s.size → Rd b l s o x u → x.r = 0 → P u → Calls Tryz.prog 132 #[.pointer (some ⟨b, 0, none⟩), .agg H, pv] u (PO u b l s sz P C KD PL o x)
def inKn (s : ByteArray) (sz o : Nat) : Nat := if o + sz ≤ s.size then 0 else 1
def inPn (s : ByteArray) (sz o : Nat) : Nat := if o + sz ≤ s.size then 0 else s.size
theorem inK_n (s : ByteArray) (sz : Nat) : (fun o => ((inKn s sz o : Nat) : Int)) = inK s sz := by
  funext o; unfold inKn inK; split <;> rfl
theorem inP_n (s : ByteArray) (sz : Nat) : (fun o => ((inPn s sz o : Nat) : Int)) = inP s sz := by
  funext o; unfold inPn inP; split <;> rfl
def mKn (s : ByteArray) (fs cnt o : Nat) : Nat := if o + 1 ≤ s.size then (if mOk s fs cnt o then 0 else 2) else 1
def mPn (s : ByteArray) (fs cnt o : Nat) : Nat := if o + 1 ≤ s.size then (if mOk s fs cnt o then 0 else o) else s.size
theorem kb_in (s : ByteArray) (sz : Nat) : KB s (inKn s sz) (inPn s sz) sz where
  k2 := fun o => by unfold inKn; split <;> decide
  fit := fun o _ h => by unfold inKn at h; split at h; assumption; exact absurd h (by decide)
  ple := fun o _ => by unfold inPn; split <;> omega
theorem kb_map (s : ByteArray) (fs cnt : Nat) : KB s (mKn s fs cnt) (mPn s fs cnt) 1 where
  k2 := fun o => by unfold mKn; split; split <;> decide; decide
  fit := fun o _ h => by unfold mKn at h; split at h; assumption; exact absurd h (by decide)
  ple := fun o ho => by unfold mPn; split; split; omega; exact ho; omega
/-- Pixels that every text long enough has. -/
theorem code_inR (nm x2 fs cnt en gw gh d a : Nat) (mp lf tp : Bool) (b l sz : Nat) (s : ByteArray) (pv : Value) (P : World → Prop) (c : Nat → Nat → Int) (hsz : 0 < sz)
    (KS : ∀ u, Calls Tryz.prog 153 #[.agg #[.int .i64 nm, .bool mp, .int .i64 x2, .int .i64 fs, .int .i64 cnt, .int .i64 en, .int .i64 gw, .int .i64 gh, .int .i64 d, .int .i64 a, .bool lf, .bool tp]] u fun e w' => e = .returned (.int .i64 sz) ∧ u.grownBy w' none) (hPt : ∀ u u', P u → Tn u u' [b, l] → P u')
    (KP : ∀ o z u, o + sz ≤ s.size → s.extract o (o + sz) = z → P u → Calls Tryz.prog 154 #[.string z, .agg #[.int .i64 nm, .bool mp, .int .i64 x2, .int .i64 fs, .int .i64 cnt, .int .i64 en, .int .i64 gw, .int .i64 gh, .int .i64 d, .int .i64 a, .bool lf, .bool tp], pv] u fun e w' => e = .returned (.tuple #[.agg #[.int .u8 (c o 0), .int .u8 (c o 1), .int .u8 (c o 2), .int .u8 (c o 3)], .bool true]) ∧ u.grownBy w' none) :
    CodeR b l s sz #[.int .i64 nm, .bool mp, .int .i64 x2, .int .i64 fs, .int .i64 cnt, .int .i64 en, .int .i64 gw, .int .i64 gh, .int .i64 d, .int .i64 a, .bool lf, .bool tp] pv P (inC s sz c) (inKn s sz) (inPn s sz) := by
  intro o x u ho R hr hP
  by_cases hw : x.st + 1 ≤ x.s
  · have e1 := work_one hr hw
    have hok := R.ok.work 1
    rw [e1] at hok
    by_cases hin : o + sz ≤ s.size
    · have hrd : Sr.rdB x o s.size sz = true := by unfold Sr.rdB Sr.canB; rw [e1]; simp; omega
      have K := tPixel_ok nm fs cnt en gw gh d a x2 mp lf tp b l s _ o 0 s.size sz x pv u P R.so R.led R.ok _ _ _ _ hrd rfl KS hP hPt (fun u hu => KP o _ u hin rfl hu)
      rw [e1] at K
      refine K.mono (fun e w' ⟨he, ⟨hs, hl, hp⟩, ht⟩ => ⟨ht, hp, .inl ⟨if_pos hin, hw, ?_, ⟨hs, hl, hok⟩⟩⟩)
      rw [he]
      unfold colV inC
      simp only [if_pos hin]
      rfl
    · have hrd : Sr.rdB x o s.size sz = false := by unfold Sr.rdB Sr.canB; rw [e1]; simp; omega
      have K := tPixel_no nm fs cnt en gw gh d a x2 mp lf tp b l s s o 0 s.size sz x pv u P R.so R.led R.ok 1 s.size hrd (by rw [e1]; exact if_pos hr) KS hP hPt
      rw [e1] at K
      have ek : inKn s sz o = 1 := if_neg hin
      have ep : inPn s sz o = s.size := if_neg hin
      exact K.mono (fun e w' ⟨he, ⟨hs, hl, hp⟩, ht⟩ => ⟨ht, hp, .inr ⟨1, s.size, o, stp x 1, ⟨ho, .inl ⟨by rw [ek]; decide, by rw [ek]; rfl, by rw [ep], rfl⟩⟩, he, ⟨hs, hl, hok⟩⟩⟩)
  · have e1 := work_none R.ok hr (by omega)
    have hok := R.ok.work 1
    rw [e1] at hok
    have hrd : Sr.rdB x o s.size sz = false := by unfold Sr.rdB Sr.canB; rw [e1]; rfl
    have K := tPixel_no nm fs cnt en gw gh d a x2 mp lf tp b l s s o 0 s.size sz x pv u P R.so R.led R.ok 4 o hrd (by rw [e1]; exact if_neg (by show ¬ (3 : Int) = 0; decide)) KS hP hPt
    rw [e1] at K
    exact K.mono (fun e w' ⟨he, ⟨hs, hl, hp⟩, ht⟩ => ⟨ht, hp, .inr ⟨4, o, o, spent x, ⟨ho, .inr ⟨by omega, rfl, rfl, rfl⟩⟩, he, ⟨hs, hl, hok⟩⟩⟩)

/-- Pixels that are entries' numbers. -/
theorem code_mapR (nm x2 fs cnt en gw gh d a : Nat) (mp lf tp : Bool) (b l p q g : Nat) (s S : ByteArray) (D : Nat → Nat → Int) (hp1 : pln x2 = 1) (ht : x2 < 256) (hfs : fs ≤ 65535) (hE : EntOf S cnt D) (np : p ≠ b ∧ p ≠ l) (nq : q ≠ b ∧ q ≠ l) (ng : g ≠ b ∧ g ≠ l) :
    CodeR b l s 1 #[.int .i64 nm, .bool mp, .int .i64 x2, .int .i64 fs, .int .i64 cnt, .int .i64 en, .int .i64 gw, .int .i64 gh, .int .i64 d, .int .i64 a, .bool lf, .bool tp] (.pointer (some ⟨p, 0, none⟩)) (fun u => Po p q l g cnt cnt S u) (mC s fs cnt D) (mKn s fs cnt) (mPn s fs cnt) := by
  have KS : ∀ u, Calls Tryz.prog 153 #[.agg #[.int .i64 nm, .bool mp, .int .i64 x2, .int .i64 fs, .int .i64 cnt, .int .i64 en, .int .i64 gw, .int .i64 gh, .int .i64 d, .int .i64 a, .bool lf, .bool tp]] u fun e w' => e = .returned (.int .i64 ((1 : Nat) : Int)) ∧ u.grownBy w' none := fun u => tsize_one nm fs cnt en gw gh d a x2 mp lf tp u ht (by rw [hp1]; rfl)
  have hPt : ∀ u u', Po p q l g cnt cnt S u → Tn u u' [b, l] → Po p q l g cnt cnt S u' := fun u u' h t => Rg.po_turned h t (by simp; omega) (by simp; omega) (by simp; omega)
  have hPg : ∀ u u', Po p q l g cnt cnt S u → u.grownBy u' none → Po p q l g cnt cnt S u' := fun u u' h t => h.grown t (by simp) (by simp) (by simp)
  intro o x u ho R hr hP
  by_cases hw : x.st + 1 ≤ x.s
  · have e1 := work_one hr hw
    have hok := R.ok.work 1
    rw [e1] at hok
    by_cases hin : o + 1 ≤ s.size
    · have hrd : Sr.rdB x o s.size (1 : Nat) = true := by unfold Sr.rdB Sr.canB; rw [e1]; simp; omega
      obtain ⟨z, hz⟩ : ∃ z, s.extract o (o + 1) = z := ⟨_, rfl⟩
      have hzs : z.size = 1 := by rw [← hz, ByteArray.size_extract]; omega
      have hzv : (z[0]'(by omega)).toNat = bn s o := by
        have h1 := bt_cut s z o (o + 1) 0 hz (by omega) (by omega)
        have h2 : Pa.bt s (o + 0) = (bn s o : Int) := rfl
        rw [h2] at h1
        omega
      by_cases hk : mOk s fs cnt o
      · have hk' : ((bn s o : Nat) : Int) - (fs : Int) = ((bn s o - fs : Nat) : Int) := by have := hk.1; omega
        have K := tPixel_ok nm fs cnt en gw gh d a x2 mp lf tp b l s z o 0 s.size 1 x (.pointer (some ⟨p, 0, none⟩)) u _ R.so R.led R.ok (D (bn s o - fs) 0) (D (bn s o - fs) 1) (D (bn s o - fs) 2) (D (bn s o - fs) 3) hrd hz KS hP hPt
          (fun u hu => tpix_map nm fs cnt en gw gh d a x2 mp lf tp z p (bn s o) _ _ _ _ true u _ ht hp1 (by omega) hzv (by omega) hu hPg (fun u hu => by
            rw [hk']
            have K := pof_yes p q l g cnt cnt (bn s o - fs) S u hu hk.2
            have e0 := hE (bn s o - fs) hk.2 0 (by decide)
            rw [Nat.add_zero] at e0
            rw [e0, hE (bn s o - fs) hk.2 1 (by decide), hE (bn s o - fs) hk.2 2 (by decide), hE (bn s o - fs) hk.2 3 (by decide)] at K
            exact K))
        rw [e1] at K
        refine K.mono (fun e w' ⟨he, ⟨hs, hl, hp⟩, ht⟩ => ⟨ht, hp, .inl ⟨by unfold mKn; rw [if_pos hin, if_pos hk], hw, ?_, ⟨hs, hl, hok⟩⟩⟩)
        rw [he]
        unfold colV mC
        simp only [if_pos hin, if_pos hk]
        rfl
      · have K := tPixel_bad nm fs cnt en gw gh d a x2 mp lf tp b l s z o 0 s.size 1 x (.pointer (some ⟨p, 0, none⟩)) u _ R.so R.led R.ok 0 0 0 0 hrd hz KS hP hPt
          (fun u hu => tpix_map nm fs cnt en gw gh d a x2 mp lf tp z p (bn s o) _ _ _ _ false u _ ht hp1 (by omega) hzv (by omega) hu hPg (fun u hu => pof_no p q cnt _ u hu.blk (by unfold mOk at hk; omega)))
        rw [e1] at K
        have ek : mKn s fs cnt o = 2 := by unfold mKn; rw [if_pos hin, if_neg hk]
        have ep : mPn s fs cnt o = o := by unfold mPn; rw [if_pos hin, if_neg hk]
        exact K.mono (fun e w' ⟨he, ⟨hs, hl, hp⟩, ht⟩ => ⟨ht, hp, .inr ⟨2, o, o + 1, stp x 1, ⟨hin, .inl ⟨by rw [ek]; decide, by rw [ek]; rfl, by rw [ep], rfl⟩⟩, he, ⟨hs, hl, hok⟩⟩⟩)
    · have hrd : Sr.rdB x o s.size (1 : Nat) = false := by unfold Sr.rdB Sr.canB; rw [e1]; simp; omega
      have K := tPixel_no nm fs cnt en gw gh d a x2 mp lf tp b l s s o 0 s.size 1 x (.pointer (some ⟨p, 0, none⟩)) u _ R.so R.led R.ok 1 s.size hrd (by rw [e1]; exact if_pos hr) KS hP hPt
      rw [e1] at K
      have ek : mKn s fs cnt o = 1 := if_neg hin
      have ep : mPn s fs cnt o = s.size := if_neg hin
      exact K.mono (fun e w' ⟨he, ⟨hs, hl, hp⟩, ht⟩ => ⟨ht, hp, .inr ⟨1, s.size, o, stp x 1, ⟨ho, .inl ⟨by rw [ek]; decide, by rw [ek]; rfl, by rw [ep], rfl⟩⟩, he, ⟨hs, hl, hok⟩⟩⟩)
  · have e1 := work_none R.ok hr (by omega)
    have hok := R.ok.work 1
    rw [e1] at hok
    have hrd : Sr.rdB x o s.size (1 : Nat) = false := by unfold Sr.rdB Sr.canB; rw [e1]; rfl
    have K := tPixel_no nm fs cnt en gw gh d a x2 mp lf tp b l s s o 0 s.size 1 x (.pointer (some ⟨p, 0, none⟩)) u _ R.so R.led R.ok 4 o hrd (by rw [e1]; exact if_neg (by show ¬ (3 : Int) = 0; decide)) KS hP hPt
    rw [e1] at K
    exact K.mono (fun e w' ⟨he, ⟨hs, hl, hp⟩, ht⟩ => ⟨ht, hp, .inr ⟨4, o, o, spent x, ⟨ho, .inr ⟨by omega, rfl, rfl, rfl⟩⟩, he, ⟨hs, hl, hok⟩⟩⟩)

/-- Pixels of such a head are told alike by the code, by any ledger, and by the document. -/
def BothR (nm x2 fs cnt en gw gh d a : Nat) (mp lf tp : Bool) (mi : Int) (s : ByteArray) (sz : Nat) (C : Nat → Nat → Int) (KD PL : Nat → Nat) : Prop :=
  sz ≤ 4 ∧ KB s KD PL sz ∧ (∀ o j, 0 ≤ C o j ∧ C o j ≤ 255) ∧ (∀ (b l : Nat) (pv : Value) (P : World → Prop), (∀ u u', P u → Tn u u' [b, l] → P u') → CodeR b l s sz #[.int .i64 nm, .bool mp, .int .i64 x2, .int .i64 fs, .int .i64 cnt, .int .i64 en, .int .i64 gw, .int .i64 gh, .int .i64 d, .int .i64 a, .bool lf, .bool tp] pv P C KD PL) ∧
    (∀ (lv : Value) (Q : World → Prop), DocPix s #[.int .i64 nm, .int .i64 mi, .int .i64 x2, .int .i64 fs, .int .i64 cnt, .int .i64 en, .int .i64 gw, .int .i64 gh, .int .i64 d, .int .i64 a, .bool lf, .bool tp, .int .i64 0, .int .i64 0] lv Q C (fun o => ((KD o : Nat) : Int)) (fun o => ((PL o : Nat) : Int))) ∧
    (∀ u, Calls Tryz.prog 62 #[.agg #[.int .i64 nm, .int .i64 mi, .int .i64 x2, .int .i64 fs, .int .i64 cnt, .int .i64 en, .int .i64 gw, .int .i64 gh, .int .i64 d, .int .i64 a, .bool lf, .bool tp, .int .i64 0, .int .i64 0]] u fun e w' => e = .returned (.int .i64 sz) ∧ u.grownBy w' none)
theorem inC_bd (s : ByteArray) (sz : Nat) (c : Nat → Nat → Int) (hc : ∀ o j, 0 ≤ c o j ∧ c o j ≤ 255) : ∀ o j, 0 ≤ inC s sz c o j ∧ inC s sz c o j ≤ 255 := fun o j => by unfold inC; split; exact hc o j; decide
theorem mC_bd (s : ByteArray) (fs cnt : Nat) (D : Nat → Nat → Int) (hD : ∀ k j, 0 ≤ D k j ∧ D k j ≤ 255) : ∀ o j, 0 ≤ mC s fs cnt D o j ∧ mC s fs cnt D o j ≤ 255 := fun o j => by unfold mC; split; split; exact hD _ _; decide; decide

theorem bothr_col_15_0 (nm x2 fs cnt en gw gh : Nat) (mp lf tp : Bool) (mi : Int) (s : ByteArray) (hm : s.size ≤ 1000000) (hp : pln x2 = 2) (ht : x2 < 256) : BothR nm x2 fs cnt en gw gh 15 0 mp lf tp mi s 2 (inC s 2 (cC 0 15 0 s)) (inKn s 2) (inPn s 2) := by
  have KS : ∀ u, Calls Tryz.prog 62 #[.agg #[.int .i64 nm, .int .i64 mi, .int .i64 x2, .int .i64 fs, .int .i64 cnt, .int .i64 en, .int .i64 gw, .int .i64 gh, .int .i64 (15 : Nat), .int .i64 (0 : Nat), .bool lf, .bool tp, .int .i64 0, .int .i64 0]] u fun e w' => e = .returned (.int .i64 ((2 : Nat) : Int)) ∧ u.grownBy w' none := fun u => rs_15 nm mi fs cnt en gw gh (0 : Nat) x2 lf tp u
  refine ⟨by decide, kb_in s 2, inC_bd s 2 _ (cC_bd 0 15 0 s), fun b l pv P hPt => ?_, fun lv Q => ?_, KS⟩
  · exact code_inR nm x2 fs cnt en gw gh 15 0 mp lf tp b l 2 s pv P (cC 0 15 0 s) (by decide) (fun u => tsize_col nm fs cnt en gw gh (15 : Nat) (0 : Nat) x2 mp lf tp 2 2 u ht hp ek_15 (fun u => size_yes 0 2 u (by decide) (by decide))) hPt
      (fun o z u ho hz hP => tpix_col nm fs cnt en gw gh (15 : Nat) (0 : Nat) x2 mp lf tp z pv _ _ _ _ u ht hp (fun u => color_15_0 s z o u hz ho (by omega)))
  · rw [inK_n, inP_n]
    exact doc_in nm x2 fs cnt en gw gh 15 0 mi lf tp 2 s lv Q (cC 0 15 0 s) (by decide) hm KS
      (fun o u ho hQ => rPixel_col nm mi fs cnt en gw gh (15 : Nat) (0 : Nat) x2 lf tp s o 2 lv _ _ _ _ ho (by decide) (fun u => rcolor_15_0 s _ o u rfl ho (by omega)) u (by omega) (by omega) (by decide) (by omega) KS)

theorem bothr_col_16_0 (nm x2 fs cnt en gw gh : Nat) (mp lf tp : Bool) (mi : Int) (s : ByteArray) (hm : s.size ≤ 1000000) (hp : pln x2 = 2) (ht : x2 < 256) : BothR nm x2 fs cnt en gw gh 16 0 mp lf tp mi s 2 (inC s 2 (cC 0 16 0 s)) (inKn s 2) (inPn s 2) := by
  have KS : ∀ u, Calls Tryz.prog 62 #[.agg #[.int .i64 nm, .int .i64 mi, .int .i64 x2, .int .i64 fs, .int .i64 cnt, .int .i64 en, .int .i64 gw, .int .i64 gh, .int .i64 (16 : Nat), .int .i64 (0 : Nat), .bool lf, .bool tp, .int .i64 0, .int .i64 0]] u fun e w' => e = .returned (.int .i64 ((2 : Nat) : Int)) ∧ u.grownBy w' none := fun u => rs_16 nm mi fs cnt en gw gh (0 : Nat) x2 lf tp u
  refine ⟨by decide, kb_in s 2, inC_bd s 2 _ (cC_bd 0 16 0 s), fun b l pv P hPt => ?_, fun lv Q => ?_, KS⟩
  · exact code_inR nm x2 fs cnt en gw gh 16 0 mp lf tp b l 2 s pv P (cC 0 16 0 s) (by decide) (fun u => tsize_col nm fs cnt en gw gh (16 : Nat) (0 : Nat) x2 mp lf tp 2 2 u ht hp ek_16 (fun u => size_yes 0 2 u (by decide) (by decide))) hPt
      (fun o z u ho hz hP => tpix_col nm fs cnt en gw gh (16 : Nat) (0 : Nat) x2 mp lf tp z pv _ _ _ _ u ht hp (fun u => color_16_0 s z o u hz ho (by omega)))
  · rw [inK_n, inP_n]
    exact doc_in nm x2 fs cnt en gw gh 16 0 mi lf tp 2 s lv Q (cC 0 16 0 s) (by decide) hm KS
      (fun o u ho hQ => rPixel_col nm mi fs cnt en gw gh (16 : Nat) (0 : Nat) x2 lf tp s o 2 lv _ _ _ _ ho (by decide) (fun u => rcolor_16_0 s _ o u rfl ho (by omega)) u (by omega) (by omega) (by decide) (by omega) KS)

theorem bothr_col_16_1 (nm x2 fs cnt en gw gh : Nat) (mp lf tp : Bool) (mi : Int) (s : ByteArray) (hm : s.size ≤ 1000000) (hp : pln x2 = 2) (ht : x2 < 256) : BothR nm x2 fs cnt en gw gh 16 1 mp lf tp mi s 2 (inC s 2 (cC 0 16 1 s)) (inKn s 2) (inPn s 2) := by
  have KS : ∀ u, Calls Tryz.prog 62 #[.agg #[.int .i64 nm, .int .i64 mi, .int .i64 x2, .int .i64 fs, .int .i64 cnt, .int .i64 en, .int .i64 gw, .int .i64 gh, .int .i64 (16 : Nat), .int .i64 (1 : Nat), .bool lf, .bool tp, .int .i64 0, .int .i64 0]] u fun e w' => e = .returned (.int .i64 ((2 : Nat) : Int)) ∧ u.grownBy w' none := fun u => rs_16 nm mi fs cnt en gw gh (1 : Nat) x2 lf tp u
  refine ⟨by decide, kb_in s 2, inC_bd s 2 _ (cC_bd 0 16 1 s), fun b l pv P hPt => ?_, fun lv Q => ?_, KS⟩
  · exact code_inR nm x2 fs cnt en gw gh 16 1 mp lf tp b l 2 s pv P (cC 0 16 1 s) (by decide) (fun u => tsize_col nm fs cnt en gw gh (16 : Nat) (1 : Nat) x2 mp lf tp 2 2 u ht hp ek_16 (fun u => size_yes 0 2 u (by decide) (by decide))) hPt
      (fun o z u ho hz hP => tpix_col nm fs cnt en gw gh (16 : Nat) (1 : Nat) x2 mp lf tp z pv _ _ _ _ u ht hp (fun u => color_16_1 s z o u hz ho (by omega)))
  · rw [inK_n, inP_n]
    exact doc_in nm x2 fs cnt en gw gh 16 1 mi lf tp 2 s lv Q (cC 0 16 1 s) (by decide) hm KS
      (fun o u ho hQ => rPixel_col nm mi fs cnt en gw gh (16 : Nat) (1 : Nat) x2 lf tp s o 2 lv _ _ _ _ ho (by decide) (fun u => rcolor_16_1 s _ o u rfl ho (by omega)) u (by omega) (by omega) (by decide) (by omega) KS)

theorem bothr_col_24_0 (nm x2 fs cnt en gw gh : Nat) (mp lf tp : Bool) (mi : Int) (s : ByteArray) (hm : s.size ≤ 1000000) (hp : pln x2 = 2) (ht : x2 < 256) : BothR nm x2 fs cnt en gw gh 24 0 mp lf tp mi s 3 (inC s 3 (cC 1 24 0 s)) (inKn s 3) (inPn s 3) := by
  have KS : ∀ u, Calls Tryz.prog 62 #[.agg #[.int .i64 nm, .int .i64 mi, .int .i64 x2, .int .i64 fs, .int .i64 cnt, .int .i64 en, .int .i64 gw, .int .i64 gh, .int .i64 (24 : Nat), .int .i64 (0 : Nat), .bool lf, .bool tp, .int .i64 0, .int .i64 0]] u fun e w' => e = .returned (.int .i64 ((3 : Nat) : Int)) ∧ u.grownBy w' none := fun u => rs_24 nm mi fs cnt en gw gh (0 : Nat) x2 lf tp u
  refine ⟨by decide, kb_in s 3, inC_bd s 3 _ (cC_bd 1 24 0 s), fun b l pv P hPt => ?_, fun lv Q => ?_, KS⟩
  · exact code_inR nm x2 fs cnt en gw gh 24 0 mp lf tp b l 3 s pv P (cC 1 24 0 s) (by decide) (fun u => tsize_col nm fs cnt en gw gh (24 : Nat) (0 : Nat) x2 mp lf tp 3 3 u ht hp ek_24 (fun u => size_yes 1 3 u (by decide) (by decide))) hPt
      (fun o z u ho hz hP => tpix_col nm fs cnt en gw gh (24 : Nat) (0 : Nat) x2 mp lf tp z pv _ _ _ _ u ht hp (fun u => color_24_0 s z o u hz ho (by omega)))
  · rw [inK_n, inP_n]
    exact doc_in nm x2 fs cnt en gw gh 24 0 mi lf tp 3 s lv Q (cC 1 24 0 s) (by decide) hm KS
      (fun o u ho hQ => rPixel_col nm mi fs cnt en gw gh (24 : Nat) (0 : Nat) x2 lf tp s o 3 lv _ _ _ _ ho (by decide) (fun u => rcolor_24_0 s _ o u rfl ho (by omega)) u (by omega) (by omega) (by decide) (by omega) KS)

theorem bothr_col_32_0 (nm x2 fs cnt en gw gh : Nat) (mp lf tp : Bool) (mi : Int) (s : ByteArray) (hm : s.size ≤ 1000000) (hp : pln x2 = 2) (ht : x2 < 256) : BothR nm x2 fs cnt en gw gh 32 0 mp lf tp mi s 4 (inC s 4 (cC 3 32 0 s)) (inKn s 4) (inPn s 4) := by
  have KS : ∀ u, Calls Tryz.prog 62 #[.agg #[.int .i64 nm, .int .i64 mi, .int .i64 x2, .int .i64 fs, .int .i64 cnt, .int .i64 en, .int .i64 gw, .int .i64 gh, .int .i64 (32 : Nat), .int .i64 (0 : Nat), .bool lf, .bool tp, .int .i64 0, .int .i64 0]] u fun e w' => e = .returned (.int .i64 ((4 : Nat) : Int)) ∧ u.grownBy w' none := fun u => rs_32 nm mi fs cnt en gw gh (0 : Nat) x2 lf tp u
  refine ⟨by decide, kb_in s 4, inC_bd s 4 _ (cC_bd 3 32 0 s), fun b l pv P hPt => ?_, fun lv Q => ?_, KS⟩
  · exact code_inR nm x2 fs cnt en gw gh 32 0 mp lf tp b l 4 s pv P (cC 3 32 0 s) (by decide) (fun u => tsize_col nm fs cnt en gw gh (32 : Nat) (0 : Nat) x2 mp lf tp 5 4 u ht hp ek_32 (fun u => size_yes 3 5 u (by decide) (by decide))) hPt
      (fun o z u ho hz hP => tpix_col nm fs cnt en gw gh (32 : Nat) (0 : Nat) x2 mp lf tp z pv _ _ _ _ u ht hp (fun u => color_32_0 s z o u hz ho (by omega)))
  · rw [inK_n, inP_n]
    exact doc_in nm x2 fs cnt en gw gh 32 0 mi lf tp 4 s lv Q (cC 3 32 0 s) (by decide) hm KS
      (fun o u ho hQ => rPixel_col nm mi fs cnt en gw gh (32 : Nat) (0 : Nat) x2 lf tp s o 4 lv _ _ _ _ ho (by decide) (fun u => rcolor_32_0 s _ o u rfl ho (by omega)) u (by omega) (by omega) (by decide) (by omega) KS)

theorem bothr_col_32_8 (nm x2 fs cnt en gw gh : Nat) (mp lf tp : Bool) (mi : Int) (s : ByteArray) (hm : s.size ≤ 1000000) (hp : pln x2 = 2) (ht : x2 < 256) : BothR nm x2 fs cnt en gw gh 32 8 mp lf tp mi s 4 (inC s 4 (cC 3 32 8 s)) (inKn s 4) (inPn s 4) := by
  have KS : ∀ u, Calls Tryz.prog 62 #[.agg #[.int .i64 nm, .int .i64 mi, .int .i64 x2, .int .i64 fs, .int .i64 cnt, .int .i64 en, .int .i64 gw, .int .i64 gh, .int .i64 (32 : Nat), .int .i64 (8 : Nat), .bool lf, .bool tp, .int .i64 0, .int .i64 0]] u fun e w' => e = .returned (.int .i64 ((4 : Nat) : Int)) ∧ u.grownBy w' none := fun u => rs_32 nm mi fs cnt en gw gh (8 : Nat) x2 lf tp u
  refine ⟨by decide, kb_in s 4, inC_bd s 4 _ (cC_bd 3 32 8 s), fun b l pv P hPt => ?_, fun lv Q => ?_, KS⟩
  · exact code_inR nm x2 fs cnt en gw gh 32 8 mp lf tp b l 4 s pv P (cC 3 32 8 s) (by decide) (fun u => tsize_col nm fs cnt en gw gh (32 : Nat) (8 : Nat) x2 mp lf tp 5 4 u ht hp ek_32 (fun u => size_yes 3 5 u (by decide) (by decide))) hPt
      (fun o z u ho hz hP => tpix_col nm fs cnt en gw gh (32 : Nat) (8 : Nat) x2 mp lf tp z pv _ _ _ _ u ht hp (fun u => color_32_8 s z o u hz ho (by omega)))
  · rw [inK_n, inP_n]
    exact doc_in nm x2 fs cnt en gw gh 32 8 mi lf tp 4 s lv Q (cC 3 32 8 s) (by decide) hm KS
      (fun o u ho hQ => rPixel_col nm mi fs cnt en gw gh (32 : Nat) (8 : Nat) x2 lf tp s o 4 lv _ _ _ _ ho (by decide) (fun u => rcolor_32_8 s _ o u rfl ho (by omega)) u (by omega) (by omega) (by decide) (by omega) KS)

theorem bothr_grey_3 (nm fs cnt en gw gh a : Nat) (mp lf tp : Bool) (mi : Int) (s : ByteArray) (hm : s.size ≤ 1000000) : BothR nm 3 fs cnt en gw gh 8 a mp lf tp mi s 1 (inC s 1 (cG s)) (inKn s 1) (inPn s 1) := by
  have KS : ∀ u, Calls Tryz.prog 62 #[.agg #[.int .i64 nm, .int .i64 mi, .int .i64 (3 : Nat), .int .i64 fs, .int .i64 cnt, .int .i64 en, .int .i64 gw, .int .i64 gh, .int .i64 (8 : Nat), .int .i64 a, .bool lf, .bool tp, .int .i64 0, .int .i64 0]] u fun e w' => e = .returned (.int .i64 ((1 : Nat) : Int)) ∧ u.grownBy w' none := fun u => rs_8 nm mi fs cnt en gw gh a 3 lf tp u
  refine ⟨by decide, kb_in s 1, inC_bd s 1 _ (cG_bd s), fun b l pv P hPt => ?_, fun lv Q => ?_, KS⟩
  · exact code_inR nm 3 fs cnt en gw gh 8 a mp lf tp b l 1 s pv P (cG s) (by decide) (fun u => tsize_one nm fs cnt en gw gh (8 : Nat) a 3 mp lf tp u (by decide) (by decide)) hPt
      (fun o z u ho hz hP => by
        have hzs : z.size = 1 := by rw [← hz, ByteArray.size_extract]; omega
        have hzv : (z[0]'(by omega)).toNat = bn s o := by
          have h1 := bt_cut s z o (o + 1) 0 hz (by omega) (by omega)
          have h2 : Pa.bt s (o + 0) = (bn s o : Int) := rfl
          rw [h2] at h1
          omega
        exact tpix_grey nm fs cnt en gw gh (8 : Nat) a 3 mp lf tp z pv (bn s o) u (by decide) (by decide) (by decide) (by omega) hzv)
  · rw [inK_n, inP_n]
    exact doc_in nm 3 fs cnt en gw gh 8 a mi lf tp 1 s lv Q (cG s) (by decide) hm KS
      (fun o u ho hQ => rPixel_grey3 nm mi fs cnt en gw gh (8 : Nat) a lf tp s o 1 lv (bn s o) ho (by decide) (by omega) (bn_at s o (by omega)) u (by omega) (by omega) (by decide) (by omega) KS)

theorem bothr_grey_11 (nm fs cnt en gw gh a : Nat) (mp lf tp : Bool) (mi : Int) (s : ByteArray) (hm : s.size ≤ 1000000) : BothR nm 11 fs cnt en gw gh 8 a mp lf tp mi s 1 (inC s 1 (cG s)) (inKn s 1) (inPn s 1) := by
  have KS : ∀ u, Calls Tryz.prog 62 #[.agg #[.int .i64 nm, .int .i64 mi, .int .i64 (11 : Nat), .int .i64 fs, .int .i64 cnt, .int .i64 en, .int .i64 gw, .int .i64 gh, .int .i64 (8 : Nat), .int .i64 a, .bool lf, .bool tp, .int .i64 0, .int .i64 0]] u fun e w' => e = .returned (.int .i64 ((1 : Nat) : Int)) ∧ u.grownBy w' none := fun u => rs_8 nm mi fs cnt en gw gh a 11 lf tp u
  refine ⟨by decide, kb_in s 1, inC_bd s 1 _ (cG_bd s), fun b l pv P hPt => ?_, fun lv Q => ?_, KS⟩
  · exact code_inR nm 11 fs cnt en gw gh 8 a mp lf tp b l 1 s pv P (cG s) (by decide) (fun u => tsize_one nm fs cnt en gw gh (8 : Nat) a 11 mp lf tp u (by decide) (by decide)) hPt
      (fun o z u ho hz hP => by
        have hzs : z.size = 1 := by rw [← hz, ByteArray.size_extract]; omega
        have hzv : (z[0]'(by omega)).toNat = bn s o := by
          have h1 := bt_cut s z o (o + 1) 0 hz (by omega) (by omega)
          have h2 : Pa.bt s (o + 0) = (bn s o : Int) := rfl
          rw [h2] at h1
          omega
        exact tpix_grey nm fs cnt en gw gh (8 : Nat) a 11 mp lf tp z pv (bn s o) u (by decide) (by decide) (by decide) (by omega) hzv)
  · rw [inK_n, inP_n]
    exact doc_in nm 11 fs cnt en gw gh 8 a mi lf tp 1 s lv Q (cG s) (by decide) hm KS
      (fun o u ho hQ => rPixel_grey11 nm mi fs cnt en gw gh (8 : Nat) a lf tp s o 1 lv (bn s o) ho (by decide) (by omega) (bn_at s o (by omega)) u (by omega) (by omega) (by decide) (by omega) KS)

theorem bothr_ex (nm x2 fs cnt en gw gh d a : Nat) (mp lf tp : Bool) (mi : Int) (s : ByteArray) (hm : s.size ≤ 1000000) (hx : x2 = 2 ∨ x2 = 10 ∨ x2 = 3 ∨ x2 = 11) (hd : dpB d x2 = true) (ha : alB a d = true) :
    ∃ sz C KD PL, BothR nm x2 fs cnt en gw gh d a mp lf tp mi s sz C KD PL := by
  have ha : a = 0 ∨ (d = 16 ∧ a = 1) ∨ (d = 32 ∧ a = 8) := of_decide_eq_true ha
  by_cases hp : pln x2 = 2
  · have ht : x2 < 256 := by omega
    have hd : d = 15 ∨ d = 16 ∨ d = 24 ∨ d = 32 := by unfold dpB at hd; rw [if_pos hp] at hd; exact of_decide_eq_true hd
    rcases ha with rfl | ⟨rfl, rfl⟩ | ⟨rfl, rfl⟩
    · rcases hd with rfl | rfl | rfl | rfl
      · exact ⟨_, _, _, _, bothr_col_15_0 nm x2 fs cnt en gw gh mp lf tp mi s hm hp ht⟩
      · exact ⟨_, _, _, _, bothr_col_16_0 nm x2 fs cnt en gw gh mp lf tp mi s hm hp ht⟩
      · exact ⟨_, _, _, _, bothr_col_24_0 nm x2 fs cnt en gw gh mp lf tp mi s hm hp ht⟩
      · exact ⟨_, _, _, _, bothr_col_32_0 nm x2 fs cnt en gw gh mp lf tp mi s hm hp ht⟩
    · exact ⟨_, _, _, _, bothr_col_16_1 nm x2 fs cnt en gw gh mp lf tp mi s hm hp ht⟩
    · exact ⟨_, _, _, _, bothr_col_32_8 nm x2 fs cnt en gw gh mp lf tp mi s hm hp ht⟩
  · have hd : d = 8 := by unfold dpB at hd; rw [if_neg hp] at hd; exact of_decide_eq_true hd
    have hx' : x2 = 3 ∨ x2 = 11 := by
      rcases hx with rfl | rfl | h
      · exact absurd (by rfl) hp
      · exact absurd (by rfl) hp
      · exact h
    subst hd
    rcases hx' with rfl | rfl
    · exact ⟨_, _, _, _, bothr_grey_3 nm fs cnt en gw gh a mp lf tp mi s hm⟩
    · exact ⟨_, _, _, _, bothr_grey_11 nm fs cnt en gw gh a mp lf tp mi s hm⟩

end Go.Proofs.YtnieeckdldpebaaGreat.Tr

/- Layer 17: where a pixel stands, as the code and as the document tell it (written by wip/gen/tr2.py). -/
namespace Go.Proofs.YtnieeckdldpebaaGreat.Tr
open Go.ChangeShapes Go.WideShapes Go.ChangeAt Go.RowKit
open Go.Proofs.YtnieeckdldpebaaGreat.Sc Go.Proofs.YtnieeckdldpebaaGreat.Le Go.Proofs.YtnieeckdldpebaaGreat.Pa Go.Proofs.YtnieeckdldpebaaGreat.Tk Go.Proofs.YtnieeckdldpebaaGreat.Tg Go.Proofs.YtnieeckdldpebaaGreat.Tp
set_option linter.unusedVariables false

/-- A pixel's column, its row, its number from the top left. -/
def plX (w : Nat) (lf : Bool) (k : Nat) : Nat := if lf then w - 1 - k % w else k % w
def plY (w h : Nat) (tp : Bool) (k : Nat) : Nat := if tp then k / w else h - 1 - k / w
def plI (w h : Nat) (lf tp : Bool) (k : Nat) : Nat := plY w h tp k * w + plX w lf k
theorem plX_lt {w : Nat} {lf : Bool} {k : Nat} (h : 1 ≤ w) : plX w lf k < w := by
  have := Nat.mod_lt k (show 0 < w by omega)
  unfold plX
  split <;> omega
theorem div_lt {w h k : Nat} (hk : k < w * h) : k / w < h := Nat.div_lt_of_lt_mul hk
theorem plY_lt {w h : Nat} {tp : Bool} {k : Nat} (hk : k < w * h) : plY w h tp k < h := by
  have := div_lt hk
  obtain ⟨q, hq⟩ : ∃ q, k / w = q := ⟨_, rfl⟩
  unfold plY
  rw [hq] at this ⊢
  split <;> omega
theorem plI_lt {w h : Nat} {lf tp : Bool} {k : Nat} (h1 : 1 ≤ w) (hk : k < w * h) : plI w h lf tp k < w * h := by
  have hx := plX_lt (lf := lf) (k := k) h1
  have hy := plY_lt (tp := tp) hk
  unfold plI
  have : (plY w h tp k + 1) * w ≤ h * w := Nat.mul_le_mul hy (Nat.le_refl _)
  rw [Nat.succ_mul, Nat.mul_comm h w] at this
  omega
theorem tm_nat (a b : Nat) : Int.tmod (a : Int) (b : Int) = ((a % b : Nat) : Int) := rfl
theorem td_nat (a b : Nat) : Int.tdiv (a : Int) (b : Int) = ((a / b : Nat) : Int) := rfl

set_option maxRecDepth 100000 in
set_option maxHeartbeats 2000000 in
theorem place_calls (nm x2 fs cnt en gw gh d a : Nat) (mp lf tp : Bool) (k : Nat) (W : World) (hw : 1 ≤ gw) (hw2 : gw ≤ 16384) (hh : gh ≤ 16384) (hk : k < gw * gh) :
    Calls Tryz.prog 67 #[.agg #[.int .i64 nm, .bool mp, .int .i64 x2, .int .i64 fs, .int .i64 cnt, .int .i64 en, .int .i64 gw, .int .i64 gh, .int .i64 d, .int .i64 a, .bool lf, .bool tp], .int .i64 k] W fun e w' => e = .returned (.tuple #[.int .i64 (plX gw lf k), .int .i64 (plY gw gh tp k)]) ∧ W.grownBy w' none := by
  have hX := plX_lt (lf := lf) (k := k) hw
  have hY := plY_lt (tp := tp) hk
  have hI := plI_lt (lf := lf) (tp := tp) hw hk
  have hm := Nat.mod_lt k (show 0 < gw by omega)
  have hd := div_lt hk
  have hww : gw * gh ≤ 16384 * 16384 := Nat.mul_le_mul hw2 hh
  have e1 := tm_nat k gw
  have e2 := td_nat k gw
  have z1 : ¬ (gw : Int) < 1 := by omega
  have z2 : ((gw : Int) == 0) = false := by rw [beq_eq_false_iff_ne]; omega
  have z3 : ¬ (gw : Int) = 0 := by omega
  obtain ⟨r, hr⟩ : ∃ r, k % gw = r := ⟨_, rfl⟩
  obtain ⟨q, hq⟩ : ∃ q, k / gw = q := ⟨_, rfl⟩
  rw [hr] at hm e1
  rw [hq] at hd e2
  have ww : IntKind.i64.wrap (q : Int) = (q : Int) := IntWalk.i64_in _ (by omega)
  obtain ⟨X, hXe⟩ : ∃ X, plX gw lf k = X := ⟨_, rfl⟩
  obtain ⟨Y, hYe⟩ : ∃ Y, plY gw gh tp k = Y := ⟨_, rfl⟩
  rw [hXe, hYe]
  rw [hXe] at hX
  rw [hYe] at hY
  have hXv : (if lf then (gw : Int) - 1 - r else (r : Int)) = (X : Int) := by
    rw [← hXe]; unfold plX; rw [hr]
    cases lf
    · rfl
    · show (gw : Int) - 1 - r = ((gw - 1 - r : Nat) : Int); omega
  have hYv : (if tp then (q : Int) else (gh : Int) - 1 - q) = (Y : Int) := by
    rw [← hYe]; unfold plY; rw [hq]
    cases tp
    · show (gh : Int) - 1 - q = ((gh - 1 - q : Nat) : Int); omega
    · rfl
  have w1 : IntKind.i64.wrap ((gw : Int) - 1) = (gw : Int) - 1 := IntWalk.i64_in _ (by omega)
  have w2 : IntKind.i64.wrap ((gh : Int) - 1) = (gh : Int) - 1 := IntWalk.i64_in _ (by omega)
  have w5 : IntKind.i64.wrap ((gw : Int) - 1 - r) = (gw : Int) - 1 - r := IntWalk.i64_in _ (by omega)
  have w6 : IntKind.i64.wrap ((gh : Int) - 1 - q) = (gh : Int) - 1 - q := IntWalk.i64_in _ (by omega)
  clear hr hq hXe hYe hww hk hI hm hX hY
  have B0 : (W.alloc (.cells #[.int .i64 nm, .bool mp, .int .i64 x2, .int .i64 fs, .int .i64 cnt, .int .i64 en, .int .i64 gw, .int .i64 gh, .int .i64 d, .int .i64 a, .bool lf, .bool tp] 55)).heap[W.heap.size]? = some (.cells #[.int .i64 nm, .bool mp, .int .i64 x2, .int .i64 fs, .int .i64 cnt, .int .i64 en, .int .i64 gw, .int .i64 gh, .int .i64 d, .int .i64 a, .bool lf, .bool tp] 55 (0, 0)) := blk_at
  have c6 := blk_cell B0 6
  have c7 := blk_cell B0 7
  have c10 := blk_cell B0 10
  have c11 := blk_cell B0 11
  simp only [List.getElem?_toArray, List.getElem?_cons_succ, List.getElem?_cons_zero] at c6 c7 c10 c11
  have HG := Lib.hid (World.grownBy_alloc W (.cells #[.int .i64 nm, .bool mp, .int .i64 x2, .int .i64 fs, .int .i64 cnt, .int .i64 en, .int .i64 gw, .int .i64 gh, .int .i64 d, .int .i64 a, .bool lf, .bool tp] 55) none)
  clear B0
  cases lf <;> cases tp
  all_goals
    simp only [if_true, Bool.false_eq_true, if_false] at hXv hYv
    go_enter Tryz.func67, Tryz.ntmps67
    go_wp2_with fail
    try generalize W.alloc _ = w1' at c6 c7 c10 c11 HG ⊢
    go_quiet (fail)
    have HG1 := Lib.hid (gb_trans HG.out (gb_drewN w1' nq none))
    go_wp2
    go_ret2
    exact ⟨rfl, HG1.out⟩

end Go.Proofs.YtnieeckdldpebaaGreat.Tr
