/- Texts of one kind, one behind the other: Tr8, Tr9, TrA, TrC. -/
import Derived.Defers
import Derived.Test.YtnieeckdldpebaaGreatG25
import Derived.Test.YtnieeckdldpebaaGreatG40
import Derived.Test.YtnieeckdldpebaaGreatG41
/- Layer 17: Map, by any ledger (written by wip/gen/tr8.py). -/
namespace Go.Proofs.YtnieeckdldpebaaGreat.Tr
open Go.ChangeShapes Go.WideShapes Go.ChangeAt Go.RowKit
open Go.Proofs.YtnieeckdldpebaaGreat.Sc Go.Proofs.YtnieeckdldpebaaGreat.Le Go.Proofs.YtnieeckdldpebaaGreat.Pa Go.Proofs.YtnieeckdldpebaaGreat.Tk Go.Proofs.YtnieeckdldpebaaGreat.Tg Go.Proofs.YtnieeckdldpebaaGreat.Tp Go.Proofs.YtnieeckdldpebaaGreat.Ra
set_option linter.unusedVariables false

/-- The budget is the same. -/
structure Lm (x y : St) : Prop where
  w : y.w = x.w
  h : y.h = x.h
  b : y.b = x.b
  s : y.s = x.s
theorem Lm.refl (x : St) : Lm x x := ⟨rfl, rfl, rfl, rfl⟩
theorem Lm.trans {x y z : St} (h : Lm x y) (k : Lm y z) : Lm x z := ⟨k.w.trans h.w, k.h.trans h.h, k.b.trans h.b, k.s.trans h.s⟩
theorem lm_stp (x : St) (n : Nat) : Lm x (stp x n) := ⟨rfl, rfl, rfl, rfl⟩
theorem lm_spent (x : St) : Lm x (spent x) := ⟨rfl, rfl, rfl, rfl⟩

theorem can_is {p t : Nat} {n : Int} : Sr.canB p t n = decide (0 ≤ n ∧ n ≤ (t : Int) - p) := by
  unfold Sr.canB
  simp
theorem rdb_yes {x : St} {p t n : Nat} (hr : x.r = 0) (hw : x.st + 1 ≤ x.s) (h : p + n ≤ t) : Sr.rdB x p t n = true := by
  unfold Sr.rdB
  rw [work_one hr hw, can_is]
  simp
  omega
theorem rdb_over {x : St} {p t n : Nat} (hn : t < p + n) : Sr.rdB x p t n = false := by
  unfold Sr.rdB
  rw [can_is, Bool.and_eq_false_iff]
  right
  simp
  omega
theorem rdb_none {x : St} {p t n : Nat} (ok : x.Ok) (hr : x.r = 0) (hw : x.s < x.st + 1) : Sr.rdB x p t n = false := by
  unfold Sr.rdB
  rw [work_none ok hr hw]
  rfl
theorem stp_ok {x : St} (ok : x.Ok) (hr : x.r = 0) (hw : x.st + 1 ≤ x.s) : (stp x 1).Ok := by
  have h := ok.work 1
  rwa [work_one hr hw] at h
theorem spent_okk {x : St} (ok : x.Ok) (hr : x.r = 0) (hw : x.s < x.st + 1) : (spent x).Ok := by
  have h := ok.work 1
  rwa [work_none ok hr hw] at h

/-- Behind steps that are let. -/
theorem wk_stp {x : St} (ok : x.Ok) (hr : x.r = 0) : ∀ k : Nat, x.st + (k : Int) ≤ x.s → Rg.wk x k = stp x k
  | 0, _ => (stp_0 x).symm
  | k + 1, h => by
    show ((Rg.wk x k).work 1).1 = _
    rw [wk_stp ok hr k (by omega), work_one (x := stp x k) hr (by rw [stp_st, stp_s]; omega), stp_stp]
theorem stp_okn {x : St} (ok : x.Ok) (hr : x.r = 0) (k : Nat) (h : x.st + (k : Int) ≤ x.s) : (stp x k).Ok := by
  have h1 := Rg.wk_ok ok k
  rwa [wk_stp ok hr k h] at h1
/-- Bytes are taken. -/
def tkn (x : St) (n : Nat) : St := { x with by_ := x.by_ + n, pk := up x.pk (x.by_ + n) }
theorem take_ok {x : St} (hr : x.r = 0) (n : Nat) (h : x.by_ + (n : Int) ≤ x.b) : x.take (n : Int) = (tkn x n, true) := by
  unfold St.take
  rw [if_neg (by simpa using hr), if_neg (by omega)]
  rfl
theorem take_nok {x : St} (hr : x.r = 0) (n : Nat) (h : x.b < x.by_ + (n : Int)) : (x.take (n : Int)).2 = false ∧ Lm x (x.take (n : Int)).1 ∧ (x.take (n : Int)).1.r ≠ 0 ∧ (x.take (n : Int)).1.by_ = x.by_ := by
  unfold St.take
  rw [if_neg (fun h => h hr), if_pos (by omega)]
  unfold St.refuse
  rw [if_pos hr]
  exact ⟨rfl, ⟨rfl, rfl, rfl, rfl⟩, by show (2 : Int) ≠ 0; decide, rfl⟩
theorem give_end8 {x x1 y : St} {n : Int} {N : Nat} (L : Lm x x1) (hb : x1.by_ = x.by_ + n) (h0 : 0 ≤ x.by_) (hn : 0 ≤ n) (e : y = stp x1 N ∨ y = spent x1) :
    Lm x (y.give n).1 ∧ (y.give n).1.by_ = x.by_ ∧ (y.give n).1.r = y.r := by
  have h1 : y.by_ = x.by_ + n ∧ Lm x y := by
    rcases e with rfl | rfl
    · exact ⟨hb, ⟨L.w, L.h, L.b, L.s⟩⟩
    · exact ⟨hb, ⟨L.w, L.h, L.b, L.s⟩⟩
  obtain ⟨h1, h2⟩ := h1
  unfold St.give
  rw [if_neg (by omega)]
  exact ⟨⟨h2.w, h2.h, h2.b, h2.s⟩, by show y.by_ - n = x.by_; omega, rfl⟩

/-- Map ends badly: with a fault (f not 0) at the text's end, or Spent, at any place. -/
def MBad (W : World) (c l : Nat) (s : ByteArray) (x : St) (f N B : Nat) (e : Ending) (w' : World) : Prop :=
  ∃ (k j : Int) (q : Nat) (y : St), e = .returned (.tuple #[.pointer none, .agg #[.int .i64 k, .int .i64 2, .int .i64 j]]) ∧ Rd c l s q y w' ∧ Tn W w' [c, l] ∧ Lm x y ∧ y.by_ = x.by_ ∧ 0 ≤ j ∧ j ≤ s.size ∧
    ((f ≠ 0 ∧ k = f ∧ j = s.size ∧ y.r = 0) ∨ (k = 4 ∧ y.r ≠ 0 ∧ (x.s < x.st + (N : Int) ∨ x.b < x.by_ + (B : Int))))
/-- Map goes over what stands there. -/
def MOk (W : World) (c l : Nat) (s : ByteArray) (x : St) (q N : Nat) (e : Ending) (w' : World) : Prop :=
  e = .returned (.tuple #[.pointer none, .agg #[.int .i64 0, .int .i64 0, .int .i64 0]]) ∧ Rd c l s q (stp x N) w' ∧ Tn W w' [c, l] ∧ x.st + (N : Int) ≤ x.s

/-- The name is not there, or its step is refused. -/
theorem tmap_name (fs cnt en gw gh d a : Nat) (nm x2 : Nat) (mp lf tp : Bool) (c l : Nat) (s : ByteArray) (p : Nat) (x : St) (W : World) (R : Rd c l s p x W) (hr : x.r = 0) (hp : p ≤ s.size) (ht : x2 < 256) (N B : Nat) (hN : 1 ≤ N) (h : s.size < p + nm ∨ x.s < x.st + 1) (f : Nat) (hf : s.size < p + nm → f = 1) :
    Calls Tryz.prog 55 #[.pointer (some ⟨c, 0, none⟩), .agg #[.int .i64 nm, .bool mp, .int .i64 x2, .int .i64 fs, .int .i64 cnt, .int .i64 en, .int .i64 gw, .int .i64 gh, .int .i64 d, .int .i64 a, .bool lf, .bool tp]] W (MBad W c l s x f N B) := by
  have ok := R.ok
  by_cases hw : x.st + 1 ≤ x.s
  · have hs : s.size < p + nm := by omega
    have K := map_name fs cnt en gw gh d a nm x2 mp lf tp c l s p 0 s.size x W R.so R.led R.ok ht 1 s.size (rdb_over hs) (by rw [work_one hr hw]; exact if_pos hr)
    rw [work_one hr hw] at K
    exact K.mono (fun e w' ⟨he, ⟨S, L⟩, t⟩ => ⟨1, s.size, p, stp x 1, he, ⟨S, L, stp_ok ok hr hw⟩, t, lm_stp x 1, rfl, by omega, by omega, .inl ⟨by rw [hf hs]; exact Nat.one_ne_zero, by rw [hf hs]; rfl, rfl, hr⟩⟩)
  · have hw1 : x.s < x.st + 1 := by omega
    have K := map_name fs cnt en gw gh d a nm x2 mp lf tp c l s p 0 s.size x W R.so R.led R.ok ht 4 p (rdb_none ok hr hw1) (by rw [work_none ok hr hw1]; exact if_neg (by show ¬ (3 : Int) = 0; decide))
    rw [work_none ok hr hw1] at K
    exact K.mono (fun e w' ⟨he, ⟨S, L⟩, t⟩ => ⟨4, p, p, spent x, he, ⟨S, L, spent_okk ok hr hw1⟩, t, lm_spent x, rfl, by omega, by omega, .inr ⟨rfl, by show (3 : Int) ≠ 0; decide, .inl (by omega)⟩⟩)
/-- There is no map. -/
theorem tmap_none (fs cnt en gw gh d a : Nat) (nm x2 : Nat) (lf tp : Bool) (c l : Nat) (s : ByteArray) (p : Nat) (x : St) (W : World) (R : Rd c l s p x W) (hr : x.r = 0) (ht : x2 < 256) (hx : pln x2 ≠ 1) (h : p + nm ≤ s.size) (hw : x.st + 1 ≤ x.s) :
    Calls Tryz.prog 55 #[.pointer (some ⟨c, 0, none⟩), .agg #[.int .i64 nm, .bool false, .int .i64 x2, .int .i64 fs, .int .i64 cnt, .int .i64 en, .int .i64 gw, .int .i64 gh, .int .i64 d, .int .i64 a, .bool lf, .bool tp]] W (MOk W c l s x (p + nm) 1) := by
  have ok := R.ok
  have K := map_none fs cnt en gw gh d a nm x2 lf tp c l s p 0 s.size x W R.so R.led R.ok ht (rdb_yes hr hw h) (by rw [beq_eq_false_iff_ne]; omega)
  rw [work_one hr hw] at K
  exact K.mono (fun e w' ⟨he, ⟨S, L⟩, t⟩ => ⟨he, ⟨S, L, stp_ok ok hr hw⟩, t, hw⟩)
/-- There is a map that no pixel asks for. -/
theorem tmap_over {en kd sz T : Nat} (E : EC en kd sz T) (fs cnt gw gh d a : Nat) (nm x2 : Nat) (lf tp : Bool) (c l : Nat) (s : ByteArray) (p : Nat) (x : St) (W : World) (R : Rd c l s p x W) (hr : x.r = 0) (ht : x2 < 256) (hc : cnt ≤ 65535) (hx : pln x2 ≠ 1) (h : p + nm ≤ s.size) (hw : x.st + 1 ≤ x.s) :
    Calls Tryz.prog 55 #[.pointer (some ⟨c, 0, none⟩), .agg #[.int .i64 nm, .bool true, .int .i64 x2, .int .i64 fs, .int .i64 cnt, .int .i64 en, .int .i64 gw, .int .i64 gh, .int .i64 d, .int .i64 a, .bool lf, .bool tp]] W (fun e w' => (p + nm + cnt * sz ≤ s.size ∧ MOk W c l s x (p + nm + cnt * sz) 2 e w') ∨ MBad W c l s x (if p + nm + cnt * sz ≤ s.size then 0 else 1) 2 0 e w') := by
  have ok := R.ok
  have hm : cnt * sz ≤ 65535 * 4 := Nat.mul_le_mul hc E.s2
  obtain ⟨m, hmm⟩ : ∃ m, cnt * sz = m := ⟨_, rfl⟩
  have hmi : (cnt : Int) * (sz : Int) = (m : Int) := by rw [← Int.natCast_mul, hmm]
  rw [hmm] at hm ⊢
  have hr1 : (stp x 1).r = 0 := hr
  have ok1 := stp_ok ok hr hw
  have hxx : ((pln x2 : Int) == 1) = false := by rw [beq_eq_false_iff_ne]; omega
  by_cases hw2 : (stp x 1).st + 1 ≤ (stp x 1).s
  · have hw3 : x.st + ((2 : Nat) : Int) ≤ x.s := by rw [stp_st, stp_s] at hw2; omega
    by_cases hs : p + nm + m ≤ s.size
    · have K := map_over fs cnt en gw gh d a nm x2 lf tp c l s p 0 s.size x W R.so R.led R.ok ht kd sz m hmi (by omega) (rdb_yes hr hw h) (by rw [work_one hr hw]; exact rdb_yes hr1 hw2 hs) hxx E.ek E.zs
      rw [work_one hr hw] at K
      simp only [work_one hr1 hw2, stp_stp] at K
      exact K.mono (fun e w' ⟨he, ⟨S, L⟩, t⟩ => .inl ⟨hs, he, ⟨S, L, stp_okn ok hr 2 hw3⟩, t, hw3⟩)
    · have K := map_short fs cnt en gw gh d a nm x2 lf tp c l s p 0 s.size x W R.so R.led R.ok ht kd sz m hmi (by omega) (rdb_yes hr hw h) (by rw [work_one hr hw]; exact rdb_over (by omega)) hxx E.ek E.zs 1 s.size (by rw [work_one hr hw]; simp only [work_one hr1 hw2]; exact if_pos hr)
      rw [work_one hr hw] at K
      simp only [work_one hr1 hw2, stp_stp] at K
      rw [if_neg hs]
      exact K.mono (fun e w' ⟨he, ⟨S, L⟩, t⟩ => .inr ⟨1, s.size, p + nm, stp x 2, he, ⟨S, L, stp_okn ok hr 2 hw3⟩, t, lm_stp x 2, rfl, by omega, by omega, .inl ⟨Nat.one_ne_zero, rfl, rfl, hr⟩⟩)
  · have hw3 : (stp x 1).s < (stp x 1).st + 1 := by omega
    have K := map_short fs cnt en gw gh d a nm x2 lf tp c l s p 0 s.size x W R.so R.led R.ok ht kd sz m hmi (by omega) (rdb_yes hr hw h) (by rw [work_one hr hw]; exact rdb_none ok1 hr1 hw3) hxx E.ek E.zs 4 (p + nm : Nat) (by rw [work_one hr hw]; simp only [work_none ok1 hr1 hw3]; exact if_neg (by show ¬ (3 : Int) = 0; decide))
    rw [work_one hr hw] at K
    simp only [work_none ok1 hr1 hw3] at K
    exact K.mono (fun e w' ⟨he, ⟨S, L⟩, t⟩ => .inr ⟨4, (p + nm : Nat), p + nm, spent (stp x 1), he, ⟨S, L, spent_okk ok1 hr1 hw3⟩, t, lm_spent x, rfl, by omega, by omega, .inr ⟨rfl, by show (3 : Int) ≠ 0; decide, .inl (by rw [stp_st, stp_s] at hw3; omega)⟩⟩)

/-- Entries stand there, all. -/
def MPal (W : World) (c l : Nat) (s : ByteArray) (x : St) (q N cnt : Nat) (D : Nat → Nat → Int) (e : Ending) (w' : World) : Prop :=
  ∃ p b g S, e = .returned (.tuple #[.pointer (some ⟨p, 0, none⟩), .agg #[.int .i64 0, .int .i64 0, .int .i64 0]]) ∧ Po p b l g cnt cnt S w' ∧ EntOf S cnt D ∧ Rd c l s q (stp (tkn x (4 * cnt)) N) w' ∧ Tn W w' [c, l] ∧ W.heap.size ≤ p ∧ W.heap.size ≤ b ∧ W.heap.size ≤ g ∧ x.st + (N : Int) ≤ x.s ∧ x.by_ + ((4 * cnt : Nat) : Int) ≤ x.b

theorem tmap_mapped {en kd sz T : Nat} (E : EC en kd sz T) (fs cnt gw gh d a : Nat) (nm x2 : Nat) (mp lf tp : Bool) (c l : Nat) (s : ByteArray) (p : Nat) (x : St) (W : World) (R : Rd c l s p x W) (hr : x.r = 0) (ht : x2 < 256) (hc : cnt ≤ 65535) (hc1 : 1 ≤ cnt) (D : Nat → Nat → Int) (hD : ∀ k, k < cnt → ∀ j, j < 4 → D k j = entAt T s (p + nm + k * sz) j) (hx : pln x2 = 1) (h : p + nm ≤ s.size) (hw : x.st + 1 ≤ x.s) :
    Calls Tryz.prog 55 #[.pointer (some ⟨c, 0, none⟩), .agg #[.int .i64 nm, .bool mp, .int .i64 x2, .int .i64 fs, .int .i64 cnt, .int .i64 en, .int .i64 gw, .int .i64 gh, .int .i64 d, .int .i64 a, .bool lf, .bool tp]] W (fun e w' => (p + nm + cnt * sz ≤ s.size ∧ MPal W c l s x (p + nm + cnt * sz) (1 + cnt) cnt D e w') ∨ MBad W c l s x (if p + nm + cnt * sz ≤ s.size then 0 else 1) (1 + cnt) (4 * cnt) e w') := by
  have ok := R.ok
  have hr1 : (stp x 1).r = 0 := hr
  have ok1 := stp_ok ok hr hw
  have y0 := ok.y0
  by_cases hb : x.by_ + ((4 * cnt : Nat) : Int) ≤ x.b
  · have tk := take_ok (x := stp x 1) hr1 (4 * cnt) hb
    obtain ⟨Y, hY⟩ : ∃ Y, tkn (stp x 1) (4 * cnt) = Y := ⟨_, rfl⟩
    rw [hY] at tk
    have okY : Y.Ok := by have h := ok1.take ((4 * cnt : Nat) : Int); rwa [tk] at h
    have hYr : Y.r = 0 := by rw [← hY]; exact hr
    have hYst : Y.st = x.st + 1 := by rw [← hY]; rfl
    have hYs : Y.s = x.s := by rw [← hY]; rfl
    have hYb : Y.by_ = x.by_ + ((4 * cnt : Nat) : Int) := by rw [← hY]; rfl
    have hLY : Lm x Y := by rw [← hY]; exact ⟨rfl, rfl, rfl, rfl⟩
    obtain ⟨nS, hS⟩ : ∃ nS : Nat, (nS : Int) = Y.s - Y.st := ⟨(Y.s - Y.st).toNat, by omega⟩
    obtain ⟨nT, hT⟩ : ∃ nT, (s.size - (p + nm)) / sz = nT := ⟨_, rfl⟩
    have hs1 := E.s1
    have hT1 : nT * sz ≤ s.size - (p + nm) := by rw [← hT]; exact Nat.div_mul_le_self _ _
    have hT2 : s.size - (p + nm) < nT * sz + sz := by
      have h := Nat.lt_mul_div_succ (s.size - (p + nm)) (show 0 < sz by omega)
      rw [hT, Nat.mul_comm, Nat.succ_mul] at h
      exact h
    obtain ⟨K, hK⟩ : ∃ K, min (min nS nT) cnt = K := ⟨_, rfl⟩
    have hKS : K ≤ nS := by omega
    have hKT : K ≤ nT := by omega
    have hKc : K ≤ cnt := by omega
    have hk2 : ∀ k, k < K → Sr.rdB (Rg.wk Y k) (p + nm + k * sz) s.size sz = true := fun k hk => by
      rw [wk_stp okY hYr k (by omega)]
      have h1 : (k + 1) * sz ≤ nT * sz := Nat.mul_le_mul_right sz (by omega)
      rw [Nat.succ_mul] at h1
      exact rdb_yes hYr (by rw [stp_st, stp_s]; omega) (by omega)
    by_cases hKK : K = cnt
    · have hfit : cnt * sz ≤ nT * sz := Nat.mul_le_mul_right sz (by omega)
      have hs : p + nm + cnt * sz ≤ s.size := by omega
      have Km := map_mapped fs cnt en gw gh d a nm x2 mp lf tp c l s p 0 s.size x W R.so R.led R.ok ht sz cnt Y D (rdb_yes hr hw h) hx (fun u hS hL => by
        rw [work_one hr hw] at hL
        have Ke := entries_yes nm fs en gw gh d a cnt x2 mp lf tp c l s (p + nm) 0 s.size sz cnt (stp x 1) kd D u hS hL ok1 hc1 hc (by rw [tk]) E.ek (by
          rw [tk]
          exact E.rd c l s (p + nm) 0 s.size cnt cnt Y D okY hc hc1 hD (Nat.le_refl _) (by rw [← hKK]; exact hk2) (.inl rfl))
        rw [tk] at Ke
        exact Ke)
      refine Km.mono (fun e w' ⟨q, b, g, S, he, ⟨hP, hE, hL', hS'⟩, ht', gp, gq, gg⟩ => .inl ⟨hs, q, b, g, S, he, hP, hE, ?_, ht', gp, gq, gg, by omega, hb⟩)
      have e1 : Rg.wk Y cnt = stp (tkn x (4 * cnt)) (1 + cnt) := by
        rw [wk_stp okY hYr cnt (by omega), ← hY, show tkn (stp x 1) (4 * cnt) = stp (tkn x (4 * cnt)) 1 from rfl, stp_stp]
      rw [e1] at hL'
      have okk := Rg.wk_ok okY cnt
      rw [e1] at okk
      exact ⟨hS', hL', okk⟩
    · have hlt : K < cnt := by omega
      have hbig : s.size < p + nm + K * sz + sz ∨ x.s < x.st + 1 + (K : Int) + 1 := by
        rcases Nat.lt_or_ge K nT with h1 | h1
        · right; omega
        · left
          have : K = nT := by omega
          rw [this]; omega
      have fin : ∀ (k j : Int) (y : St) (f : Nat), Rg.wk Y (K + 1) = y → (if (y.give ((4 * cnt : Nat) : Int)).1.r = 0 then Value.agg #[.int .i64 1, .int .i64 2, .int .i64 s.size] else .agg #[.int .i64 4, .int .i64 2, .int .i64 ((p + nm + K * sz : Nat) : Int)]) = .agg #[.int .i64 k, .int .i64 2, .int .i64 j] →
          Sr.rdB (Rg.wk Y K) (p + nm + K * sz) s.size sz = false → (y = stp Y (K + 1) ∨ y = spent Y) → 0 ≤ j → j ≤ s.size → ((f ≠ 0 ∧ k = f ∧ j = s.size ∧ y.r = 0) ∨ (k = 4 ∧ y.r ≠ 0 ∧ (x.s < x.st + ((1 + cnt : Nat) : Int) ∨ x.b < x.by_ + ((4 * cnt : Nat) : Int)))) →
          Calls Tryz.prog 55 #[.pointer (some ⟨c, 0, none⟩), .agg #[.int .i64 nm, .bool mp, .int .i64 x2, .int .i64 fs, .int .i64 cnt, .int .i64 en, .int .i64 gw, .int .i64 gh, .int .i64 d, .int .i64 a, .bool lf, .bool tp]] W (MBad W c l s x f (1 + cnt) (4 * cnt)) := by
        intro k j y f hy hv hno hyy j0 j1 hc4
        have G := give_end8 (x := x) (x1 := Y) (y := y) hLY hYb y0 (by omega) hyy
        have Km := map_wanted fs cnt en gw gh d a nm x2 mp lf tp c l s p 0 s.size x W R.so R.led R.ok ht sz cnt K Y k j (rdb_yes hr hw h) hx (fun u hS hL => by
          rw [work_one hr hw] at hL
          have Ke := entries_short nm fs en gw gh d a cnt x2 mp lf tp c l s (p + nm) 0 s.size sz K (stp x 1) kd D u hS hL ok1 hc1 hc (by rw [tk]) E.ek k j hlt (by rw [tk, hy]; exact hv) (by
            rw [tk]
            exact E.rd c l s (p + nm) 0 s.size cnt K Y D okY hc hc1 (fun i hi => hD i (by omega)) hKc hk2 (.inr hno))
          rw [tk] at Ke
          exact Ke)
        refine Km.mono (fun e w' ⟨he, ⟨hl', hs'⟩, ht'⟩ => ?_)
        rw [hy] at hl'
        have okg := (Rg.wk_ok okY (K + 1)).give ((4 * cnt : Nat) : Int)
        rw [hy] at okg
        exact ⟨k, j, p + nm + K * sz, _, he, ⟨hs', hl', okg⟩, ht', G.1, G.2.1, j0, j1, by rw [G.2.2]; exact hc4⟩
      have hKe : Rg.wk Y K = stp Y K := wk_stp okY hYr K (by omega)
      have hKz : K * sz ≤ nT * sz := Nat.mul_le_mul_right sz hKT
      by_cases hw2 : Y.st + ((K + 1 : Nat) : Int) ≤ Y.s
      · have hsz : s.size < p + nm + K * sz + sz := by rcases hbig with h1 | h1 <;> omega
        have hnf : ¬ p + nm + cnt * sz ≤ s.size := by
          have h1 : (K + 1) * sz ≤ cnt * sz := Nat.mul_le_mul_right sz hlt
          rw [Nat.succ_mul] at h1
          omega
        rw [if_neg hnf]
        have G := give_end8 (x := x) (x1 := Y) (y := stp Y (K + 1)) (n := ((4 * cnt : Nat) : Int)) hLY hYb y0 (by omega) (.inl rfl)
        exact (fin 1 s.size (stp Y (K + 1)) 1 (wk_stp okY hYr (K + 1) hw2) (by rw [G.2.2]; exact if_pos hYr) (rdb_over hsz) (.inl rfl) (by omega) (by omega) (.inl ⟨Nat.one_ne_zero, rfl, rfl, hYr⟩)).mono (fun e w' h => .inr h)
      · have hw3 : (stp Y K).s < (stp Y K).st + 1 := by rw [stp_st, stp_s]; omega
        have okK := stp_okn okY hYr K (by omega)
        have hyy : Rg.wk Y (K + 1) = spent Y := by
          show ((Rg.wk Y K).work 1).1 = _
          rw [hKe, work_none okK hYr hw3]
          rfl
        have G := give_end8 (x := x) (x1 := Y) (y := spent Y) (N := 0) (n := ((4 * cnt : Nat) : Int)) hLY hYb y0 (by omega) (.inr rfl)
        exact (fin 4 (p + nm + K * sz : Nat) (spent Y) (if p + nm + cnt * sz ≤ s.size then 0 else 1) hyy (by rw [G.2.2]; exact if_neg (by show ¬ (3 : Int) = 0; decide)) (by rw [hKe]; exact rdb_none okK hYr hw3) (.inr rfl) (by omega) (by omega) (.inr ⟨rfl, by show (3 : Int) ≠ 0; decide, .inl (by omega)⟩)).mono (fun e w' h => .inr h)
  · have hb1 : (stp x 1).b < (stp x 1).by_ + ((4 * cnt : Nat) : Int) := by show x.b < x.by_ + _; omega
    obtain ⟨t1, t2, t3, t4⟩ := take_nok (x := stp x 1) hr1 (4 * cnt) hb1
    have okT := ok1.take ((4 * cnt : Nat) : Int)
    have Km := map_refused fs cnt en gw gh d a nm x2 mp lf tp c l s p 0 s.size x W R.so R.led R.ok ht _ 4 (p + nm : Nat) (rdb_yes hr hw h) hx (fun u hS hL => by
      rw [work_one hr hw] at hL
      exact entries_spent nm fs en gw gh d a cnt x2 mp lf tp c l s (p + nm) 0 s.size (stp x 1) u hS hL ok1 hc1 hc t1)
    exact Km.mono (fun e w' ⟨he, ⟨hl', hs'⟩, ht'⟩ => .inr ⟨4, (p + nm : Nat), p + nm, _, he, ⟨hs', hl', okT⟩, ht', (lm_stp x 1).trans t2, t4, by omega, by omega, .inr ⟨rfl, t3, .inr (by omega)⟩⟩)

end Go.Proofs.YtnieeckdldpebaaGreat.Tr

/- Layer 19: fill, by any ledger (written by wip/gen/tr9.py). -/
namespace Go.Proofs.YtnieeckdldpebaaGreat.Tr
open Go.ChangeShapes Go.WideShapes Go.ChangeAt Go.RowKit
open Go.Proofs.YtnieeckdldpebaaGreat.Sc Go.Proofs.YtnieeckdldpebaaGreat.Le Go.Proofs.YtnieeckdldpebaaGreat.Pa Go.Proofs.YtnieeckdldpebaaGreat.Tk Go.Proofs.YtnieeckdldpebaaGreat.Tg Go.Proofs.YtnieeckdldpebaaGreat.Tp Go.Proofs.YtnieeckdldpebaaGreat.Ra
set_option linter.unusedVariables false

/-- Behind fill: the fault f at p (f 0: none), the pixels' places l; N steps, B bytes beside the raster. -/
def FO (W : World) (c l r cb g gw gh : Nat) (lf tp : Bool) (C : Nat → Nat → Int) (s : ByteArray) (x : St) (f p N B n : Nat) (L : List Nat) (e : Ending) (w' : World) : Prop :=
  ∃ (q : Nat) (y : St), Rd c l s q y w' ∧ Tn W w' [g, c, l] ∧ Lm x y ∧ y.by_ = x.by_ ∧ (∃ R, Ro r l cb g gw gh R w') ∧
    ((f = 0 ∧ e = .returned okT ∧ y.r = 0 ∧ Ro r l cb g gw gh (rsl (plI gw gh lf tp) (fB C) L n) w') ∨
     (f ≠ 0 ∧ e = .returned (flT f p) ∧ y.r = 0) ∨
     ((x.s < x.st + (N : Int) ∨ x.b < x.by_ + (B : Int)) ∧ (∃ j : Nat, j ≤ s.size ∧ e = .returned (flT 4 j)) ∧ y.r ≠ 0))

theorem B0.grow {W w : World} {M c l r cb g : Nat} (h : B0 W M c l r cb g) (t : W.heap.size ≤ w.heap.size) : B0 w M c l r cb g := by
  obtain ⟨mw, rc, cbc, cbl, gc, gl, rl, rg, cg, cw, lw, rw', bw, gw⟩ := h
  exact ⟨by omega, rc, cbc, cbl, gc, gl, rl, rg, cg, by omega, by omega, by omega, by omega, by omega⟩

/-- Behind fill, where the map ended badly. -/
def FX (W : World) (c l r cb g gw gh : Nat) (s : ByteArray) (x : St) (f N B : Nat) (e : Ending) (w' : World) : Prop :=
  ∃ (q : Nat) (y : St), Rd c l s q y w' ∧ Tn W w' [g, c, l] ∧ Lm x y ∧ y.by_ = x.by_ ∧ (∃ R, Ro r l cb g gw gh R w') ∧
    ((f ≠ 0 ∧ e = .returned (flT f s.size) ∧ y.r = 0) ∨
     ((x.s < x.st + (N : Int) ∨ x.b < x.by_ + (B : Int)) ∧ (∃ j : Nat, j ≤ s.size ∧ e = .returned (flT 4 j)) ∧ y.r ≠ 0))
theorem FX.fo {W w' : World} {c l r cb g gw gh n f0 f p N0 B0 N B : Nat} {lf tp : Bool} {C : Nat → Nat → Int} {s : ByteArray} {x : St} {L : List Nat} {e : Ending} (h : FX W c l r cb g gw gh s x f0 N0 B0 e w') (hf : f0 ≠ 0 → f = f0 ∧ p = s.size) (hN : N0 ≤ N) (hB : B0 ≤ B) : FO W c l r cb g gw gh lf tp C s x f p N B n L e w' := by
  obtain ⟨q, y, h1, h2, h3, h4, h5, ⟨a, b, c⟩ | ⟨a, b, c⟩⟩ := h
  · obtain ⟨e1, e2⟩ := hf a
    exact ⟨q, y, h1, h2, h3, h4, h5, .inr (.inl ⟨by rw [e1]; exact a, by rw [e1, e2]; exact b, c⟩)⟩
  · exact ⟨q, y, h1, h2, h3, h4, h5, .inr (.inr ⟨by rcases a with a | a; exact .inl (by omega); exact .inr (by omega), b, c⟩)⟩
theorem FO.more {W w' : World} {c l r cb g gw gh n f p N0 B0 N B : Nat} {lf tp : Bool} {C : Nat → Nat → Int} {s : ByteArray} {x : St} {L : List Nat} {e : Ending} (h : FO W c l r cb g gw gh lf tp C s x f p N0 B0 n L e w') (hN : N0 ≤ N) (hB : B0 ≤ B) : FO W c l r cb g gw gh lf tp C s x f p N B n L e w' := by
  obtain ⟨q, y, h1, h2, h3, h4, h5, h | h | ⟨a, b, c⟩⟩ := h
  · exact ⟨q, y, h1, h2, h3, h4, h5, .inl h⟩
  · exact ⟨q, y, h1, h2, h3, h4, h5, .inr (.inl h)⟩
  · exact ⟨q, y, h1, h2, h3, h4, h5, .inr (.inr ⟨by rcases a with a | a; exact .inl (by omega); exact .inr (by omega), b, c⟩)⟩

theorem bodyPostD_ret {P : Program} {fn : Func} {R : Ending → World → Prop} {a : Act} {w : World} {v : Value} (hr : (results fn a.tmps).run P w = .ok v w) (hd : a.defers = []) (h : R (.returned v) w) : bodyPostD P fn R .ret a w := by
  show Leaves P fn a.tmps R a.defers .returning w
  rw [hd]
  exact ⟨v, hr, h⟩

theorem FO.of {W w u v : World} {c l r cb g gw gh hb n N1 : Nat} {lf tp : Bool} {P : World → Prop} {C : Nat → Nat → Int} {s : ByteArray} {x : St} {Z : PZ} {e : Ending} (B : B0 W 0 c l r cb g) (hr : x.r = 0) (hst : x.st + (N1 : Int) ≤ x.s) (h : ZP w c l r cb g gw gh lf tp P C s (stp x N1) n Z e u) (t0 : Tn W w [c, l]) (hh : W.heap.size ≤ hb) (t : Tn u v [hb]) :
    FO W c l r cb g gw gh lf tp C s x Z.f Z.p (N1 + Z.n) 0 n Z.l e v := by
  obtain ⟨mw, rc, cbc, cbl, gc, gl, rl, rg, cg, cw, lw, rw', bw, gw'⟩ := B
  obtain ⟨t1, _, h1⟩ := h
  have TW : Tn W v [g, c, l] := ((t0.mono (by intro i hi; simp at hi ⊢; omega)).trans t1).over t (by intro i hi; simp at hi; left; omega)
  obtain ⟨hf, he, rd, ro⟩ | ⟨k, b, q, y, R, ⟨hq, E⟩, he, rd, ro⟩ := h1
  · have ro' := ro.turned (tB t) (by simp; omega) (by simp; omega) (by simp; omega)
    exact ⟨_, _, rd.own t (by simp; omega) (by simp; omega), TW, ⟨rfl, rfl, rfl, rfl⟩, rfl, ⟨_, ro'⟩, .inl ⟨hf, he, hr, ro'⟩⟩
  · have ro' := ro.turned (tB t) (by simp; omega) (by simp; omega) (by simp; omega)
    have rd' := rd.own t (by simp; omega) (by simp; omega)
    obtain ⟨f0, hk, hb, hy⟩ | ⟨hs, hk, hb, hy⟩ := E
    · subst hy
      exact ⟨_, _, rd', TW, ⟨rfl, rfl, rfl, rfl⟩, rfl, ⟨_, ro'⟩, .inr (.inl ⟨f0, by rw [he, hk, hb], hr⟩)⟩
    · subst hy
      rw [stp_s, stp_st] at hs
      exact ⟨_, _, rd', TW, ⟨rfl, rfl, rfl, rfl⟩, rfl, ⟨_, ro'⟩, .inr (.inr ⟨.inl (by omega), ⟨q, hq, by rw [he, hk, hb]⟩, by show (3 : Int) ≠ 0; decide⟩)⟩

theorem FO.bad {W v : World} {c l r cb g gw gh f N B1 q : Nat} {s : ByteArray} {x y : St} {k j : Int} {R : ByteArray} (B : B0 W 0 c l r cb g) (O : Ro r l cb g gw gh R v) (rd : Rd c l s q y v) (t : Tn W v [g, c, l]) (lm : Lm x y) (hb : y.by_ = x.by_) (j0 : 0 ≤ j) (j1 : j ≤ s.size)
    (h : (f ≠ 0 ∧ k = f ∧ j = s.size ∧ y.r = 0) ∨ (k = 4 ∧ y.r ≠ 0 ∧ (x.s < x.st + (N : Int) ∨ x.b < x.by_ + (B1 : Int)))) : FX W c l r cb g gw gh s x f N B1 (.returned (flT k j)) v := by
  obtain ⟨f0, hk, hj, hy⟩ | ⟨hk, hy, hs⟩ := h
  · exact ⟨q, y, rd, t, lm, hb, ⟨_, O⟩, .inl ⟨f0, by rw [hk, hj], hy⟩⟩
  · exact ⟨q, y, rd, t, lm, hb, ⟨_, O⟩, .inr ⟨hs, ⟨j.toNat, by omega, by rw [hk, Int.toNat_of_nonneg j0]⟩, hy⟩⟩

set_option maxRecDepth 100000 in
set_option maxHeartbeats 4000000 in
theorem fill_none (W : World) (c l r cb g sz n p0 a0 N1 : Nat) (nm x2 fs cnt en gw gh d a : Nat) (mp lf tp : Bool) (C : Nat → Nat → Int) (KD PL : Nat → Nat) (s : ByteArray) (x : St) (B : B0 W 0 c l r cb g)
    (hb : KB s KD PL sz) (hC : ∀ o j, 0 ≤ C o j ∧ C o j ≤ 255) (KX0 : CodeR c l s sz #[.int .i64 nm, .bool mp, .int .i64 x2, .int .i64 fs, .int .i64 cnt, .int .i64 en, .int .i64 gw, .int .i64 gh, .int .i64 d, .int .i64 a, .bool lf, .bool tp] (.pointer none) (fun _ => True) C KD PL) (hN : gw * gh = n) (h1 : 1 ≤ gw) (hw : gw ≤ 16384) (hh : gh ≤ 16384) (hr : x.r = 0) (R : Rd c l s p0 x W) (O : Ro r l cb g gw gh (Bu.rep 0 (4 * n)) W) (ok : Prop) (hok : ok → a0 ≤ s.size) (F1 N2 B2 : Nat)
    (KM0 : ∀ u, Rd c l s p0 x u → Calls Tryz.prog 55 #[.pointer (some ⟨c, 0, none⟩), .agg #[.int .i64 nm, .bool mp, .int .i64 x2, .int .i64 fs, .int .i64 cnt, .int .i64 en, .int .i64 gw, .int .i64 gh, .int .i64 d, .int .i64 a, .bool lf, .bool tp]] u (fun e w' => (ok ∧ MOk u c l s x a0 N1 e w') ∨ MBad u c l s x F1 N2 B2 e w')) :
    Calls Tryz.prog 30 #[.pointer (some ⟨c, 0, none⟩), .agg #[.int .i64 nm, .bool mp, .int .i64 x2, .int .i64 fs, .int .i64 cnt, .int .i64 en, .int .i64 gw, .int .i64 gh, .int .i64 d, .int .i64 a, .bool lf, .bool tp], .pointer (some ⟨r, 0, none⟩)] W
      (fun e w' => (ok ∧ FO W c l r cb g gw gh lf tp C s x (allZ KD PL sz s (decide (9 ≤ (x2 : Int)) && decide ((x2 : Int) ≤ 11)) n a0).f (allZ KD PL sz s (decide (9 ≤ (x2 : Int)) && decide ((x2 : Int) ≤ 11)) n a0).p (N1 + (allZ KD PL sz s (decide (9 ≤ (x2 : Int)) && decide ((x2 : Int) ≤ 11)) n a0).n) 0 n (allZ KD PL sz s (decide (9 ≤ (x2 : Int)) && decide ((x2 : Int) ≤ 11)) n a0).l e w') ∨ FX W c l r cb g gw gh s x F1 N2 B2 e w') := by
  obtain ⟨Z, hZ⟩ : ∃ Z, allZ KD PL sz s (decide (9 ≤ (x2 : Int)) && decide ((x2 : Int) ≤ 11)) n a0 = Z := ⟨_, rfl⟩
  rw [hZ]
  have KR0 := fun u (hk : ok) (Bq : B0 u 0 c l r cb g) (Ru : Rd c l s a0 (stp x N1) u) (Ou : Ro r l cb g gw gh (Bu.rep 0 (4 * n)) u) => tread_calls u 0 c l r cb g sz n a0 nm x2 fs cnt en gw gh d a mp lf tp none (fun _ => True) C KD PL s (stp x N1) Bq (fun _ _ _ _ => trivial) hb hC KX0 hN h1 hw hh hr (hok hk) Ru Ou trivial
  simp only [hZ] at KR0
  have KR := Lib.hid KR0
  have KM := Lib.hid KM0
  have HB := Lib.hid B
  have HS := Lib.hid (And.intro R O)
  have HOK := Lib.hid hok
  have HRR := Lib.hid hr
  obtain ⟨Q, hQ⟩ : ∃ Q : Ending → World → Prop, (fun e w' => (ok ∧ FO W c l r cb g gw gh lf tp C s x Z.f Z.p (N1 + Z.n) 0 n Z.l e w') ∨ FX W c l r cb g gw gh s x F1 N2 B2 e w') = Q := ⟨_, rfl⟩
  rw [hQ]
  have HQ := Lib.hid hQ
  clear KR0 KM0 B hb hC KX0 hN h1 hw hh hr R O hok hZ hQ
  go_enter_defers Tryz.func30, Tryz.ntmps30
  go_wp2_with fail
  have g2 : W.grownBy ((W.alloc (.cells #[.int .i64 nm, .bool mp, .int .i64 x2, .int .i64 fs, .int .i64 cnt, .int .i64 en, .int .i64 gw, .int .i64 gh, .int .i64 d, .int .i64 a, .bool lf, .bool tp] 55)).alloc (.cells #[.int .i64 0, .int .i64 0, .int .i64 0] 29)) none := gb_trans (World.grownBy_alloc _ _ none) (World.grownBy_alloc _ _ none)
  have F0 : Fl (W.heap.size + 1) 0 0 0 ((W.alloc (.cells #[.int .i64 nm, .bool mp, .int .i64 x2, .int .i64 fs, .int .i64 cnt, .int .i64 en, .int .i64 gw, .int .i64 gh, .int .i64 d, .int .i64 a, .bool lf, .bool tp] 55)).alloc (.cells #[.int .i64 0, .int .i64 0, .int .i64 0] 29)) := blk_at1
  have X0 : ((W.alloc (.cells #[.int .i64 nm, .bool mp, .int .i64 x2, .int .i64 fs, .int .i64 cnt, .int .i64 en, .int .i64 gw, .int .i64 gh, .int .i64 d, .int .i64 a, .bool lf, .bool tp] 55)).alloc (.cells #[.int .i64 0, .int .i64 0, .int .i64 0] 29)).heap[W.heap.size]? = some (.cells #[.int .i64 nm, .bool mp, .int .i64 x2, .int .i64 fs, .int .i64 cnt, .int .i64 en, .int .i64 gw, .int .i64 gh, .int .i64 d, .int .i64 a, .bool lf, .bool tp] 55 (0, 0)) := old0 (World.grownBy_alloc _ _ none) blk_at (by rw [size_alloc]; omega) (by simp)
  obtain ⟨hd, hhd⟩ : ∃ q, W.heap.size = q := ⟨_, rfl⟩
  rw [hhd] at F0 X0 ⊢
  generalize ((W.alloc (.cells #[.int .i64 nm, .bool mp, .int .i64 x2, .int .i64 fs, .int .i64 cnt, .int .i64 en, .int .i64 gw, .int .i64 gh, .int .i64 d, .int .i64 a, .bool lf, .bool tp] 55)).alloc (.cells #[.int .i64 0, .int .i64 0, .int .i64 0] 29)) = w2 at g2 F0 X0 ⊢
  have HH := Lib.hid hhd
  have HF := Lib.hid F0
  have HX := Lib.hid X0
  have HG := Lib.hid g2
  clear F0 X0 g2 hhd
  refine (KM.out w2 (HS.out.1.grown HG.out)).mono ?_
  rintro e u1 hm
  obtain ⟨hk, rfl, R1, t1, hst⟩ | ⟨k, j, q, y, rfl, Ry, ty, Ly, hby, j0, j1, hc4⟩ := hm
  · have HX1 := Lib.hid (kept t1 HX.out (by have := HB.out.cw; have := HB.out.lw; have := HH.out; simp; omega))
    have HF1 := Lib.hid (HF.out.turned t1 (by have := HB.out.cw; have := HB.out.lw; have := HH.out; simp; omega))
    have HT1 := Lib.hid t1
    have HR1 := Lib.hid R1
    have HK := Lib.hid (And.intro hk hst)
    clear hk R1 t1 hst
    have h0 : u1.cell? ⟨hd, 0, none⟩ = some (.int .i64 nm) := blk_cell HX1.out 0
    have h1 : u1.cell? ⟨hd, 1, none⟩ = some (.bool mp) := blk_cell HX1.out 1
    have h2 : u1.cell? ⟨hd, 2, none⟩ = some (.int .i64 x2) := blk_cell HX1.out 2
    have h3 : u1.cell? ⟨hd, 3, none⟩ = some (.int .i64 fs) := blk_cell HX1.out 3
    have h4 : u1.cell? ⟨hd, 4, none⟩ = some (.int .i64 cnt) := blk_cell HX1.out 4
    have h5 : u1.cell? ⟨hd, 5, none⟩ = some (.int .i64 en) := blk_cell HX1.out 5
    have h6 : u1.cell? ⟨hd, 6, none⟩ = some (.int .i64 gw) := blk_cell HX1.out 6
    have h7 : u1.cell? ⟨hd, 7, none⟩ = some (.int .i64 gh) := blk_cell HX1.out 7
    have h8 : u1.cell? ⟨hd, 8, none⟩ = some (.int .i64 d) := blk_cell HX1.out 8
    have h9 : u1.cell? ⟨hd, 9, none⟩ = some (.int .i64 a) := blk_cell HX1.out 9
    have h10 : u1.cell? ⟨hd, 10, none⟩ = some (.bool lf) := blk_cell HX1.out 10
    have h11 : u1.cell? ⟨hd, 11, none⟩ = some (.bool tp) := blk_cell HX1.out 11
    have hlt := blk_lt HX1.out
    go_wp2_with fail
    have ga := World.grownBy_alloc u1 (.cells #[.int .i64 0, .int .i64 0, .int .i64 0] 29) none
    generalize u1.alloc (.cells #[.int .i64 0, .int .i64 0, .int .i64 0] 29) = w3 at ga ⊢
    have HGA := Lib.hid ga
    have HT3 := Lib.hid (((Tn.gb HG.out (S := [c, l]) (by simp)).trans HT1.out).trans (Tn.gb ga (by simp)))
    have HF3 := Lib.hid (HF1.out.turned (Tn.gb ga (S := []) (by simp)) (by simp))
    clear ga
    refine (KR.out w3 HK.out.1 (HB.out.grow HT3.out.size) (HR1.out.grown HGA.out) (((HS.out.2.grown HG.out (by simp) (by simp) (by simp)).turned (tB HT1.out) (by have := HB.out.rc; have := HB.out.rl; simp; omega) (by have := HB.out.cbc; have := HB.out.cbl; simp; omega) (by have := HB.out.gc; have := HB.out.gl; simp; omega)).grown HGA.out (by simp) (by simp) (by simp))).mono ?_
    rintro e u4 hz
    have f4 := HF3.out.turned hz.1 (by have := HB.out.cw; have := HB.out.lw; have := HB.out.gw; have := HH.out; simp; omega)
    have r0 := f4.c0
    have r1 := f4.c1
    have r2 := f4.c2
    have rf0 := f4.free 0
    have rf1 := f4.free 1
    have rf2 := f4.free 2
    have rl := f4.lt
    have HZ4 := Lib.hid hz
    have HF4 := Lib.hid f4
    clear f4 h0 h1 h2 h3 h4 h5 h6 h7 h8 h9 h10 h11 hlt
    obtain ⟨_, _, ⟨_, rfl, _⟩ | ⟨kk, bb, _, _, _, _, rfl, _⟩⟩ := hz
    · unfold okT
      go_wp2
      have t5 : Tn u4 (((u4.setCell ⟨hd + 1, 0, none⟩ (.int .i64 0)).setCell ⟨hd + 1, 1, none⟩ (.int .i64 0)).setCell ⟨hd + 1, 2, none⟩ (.int .i64 0)) [hd + 1] := (((Tn.refl u4 [hd + 1]).st (by simp)).st (by simp)).st (by simp)
      refine bodyPostD_ret (v := okT) (by unfold okT; simp only [results, Tryz.results30]; go_simp) rfl ?_
      rw [← HQ.out]
      exact .inl ⟨HK.out.1, FO.of HB.out HRR.out HK.out.2 HZ4.out HT3.out (by have := HH.out; omega) t5⟩
    · unfold flT
      go_wp2
      have t5 : Tn u4 (((u4.setCell ⟨hd + 1, 0, none⟩ (.int .i64 kk)).setCell ⟨hd + 1, 1, none⟩ (.int .i64 2)).setCell ⟨hd + 1, 2, none⟩ (.int .i64 bb)) [hd + 1] := (((Tn.refl u4 [hd + 1]).st (by simp)).st (by simp)).st (by simp)
      refine bodyPostD_ret (v := flT kk bb) (by unfold flT; simp only [results, Tryz.results30]; go_simp) rfl ?_
      rw [← HQ.out]
      exact .inl ⟨HK.out.1, FO.of HB.out HRR.out HK.out.2 HZ4.out HT3.out (by have := HH.out; omega) t5⟩
  · have HF1 := Lib.hid (HF.out.turned ty (by have := HB.out.cw; have := HB.out.lw; have := HH.out; simp; omega))
    have hkn : k ≠ 0 := by rcases hc4 with ⟨h1, h2, _⟩ | ⟨h1, _⟩ <;> omega
    have HT1 := Lib.hid ((Tn.gb HG.out (S := [c, l]) (by simp)).trans ty)
    have HO1 := Lib.hid ((HS.out.2.grown HG.out (by simp) (by simp) (by simp)).turned (tB ty) (by have := HB.out.rc; have := HB.out.rl; simp; omega) (by have := HB.out.cbc; have := HB.out.cbl; simp; omega) (by have := HB.out.gc; have := HB.out.gl; simp; omega))
    have HY := Lib.hid (And.intro Ry (And.intro Ly (And.intro hby (And.intro j0 (And.intro j1 hc4)))))
    have r0 := HF1.out.c0
    have r1 := HF1.out.c1
    have r2 := HF1.out.c2
    have rf0 := HF1.out.free 0
    have rf1 := HF1.out.free 1
    have rf2 := HF1.out.free 2
    have rl := HF1.out.lt
    clear Ry ty Ly hby j0 j1 hc4
    go_wp2
    have t5 : Tn u1 ((((u1.setCell ⟨hd + 1, 0, none⟩ (.int .i64 k)).setCell ⟨hd + 1, 1, none⟩ (.int .i64 2)).setCell ⟨hd + 1, 2, none⟩ (.int .i64 j)).alloc (.cells #[.int .i64 k, .int .i64 2, .int .i64 j] 29)) [hd + 1] := ((((Tn.refl u1 [hd + 1]).st (by simp)).st (by simp)).st (by simp)).trans (Tn.gb (World.grownBy_alloc _ _ none) (by simp))
    refine bodyPostD_ret (v := flT k j) (by unfold flT; simp only [results, Tryz.results30]; go_simp) rfl ?_
    rw [← HQ.out]
    obtain ⟨mw, rc, cbc, cbl, gc, gl, rl', rg, cg, cw, lw, rw', bw, gw'⟩ := HB.out
    have hH := HH.out
    exact .inr (FO.bad HB.out (HO1.out.turned (tB t5) (by simp; omega) (by simp; omega) (by simp; omega)) (HY.out.1.own t5 (by simp; omega) (by simp; omega)) ((HT1.out.mono (by intro i hi; simp at hi ⊢; omega)).over t5 (by intro i hi; simp at hi; left; omega)) HY.out.2.1 HY.out.2.2.1 HY.out.2.2.2.1 HY.out.2.2.2.2.1 HY.out.2.2.2.2.2)

end Go.Proofs.YtnieeckdldpebaaGreat.Tr

/- Layer 19: fill with a palette, by any ledger (written by wip/gen/tra.py). -/
namespace Go.Proofs.YtnieeckdldpebaaGreat.Pa
open Go.ChangeShapes Go.WideShapes Go.ChangeAt Go.RowKit
open Go.Proofs.YtnieeckdldpebaaGreat.Le
set_option linter.unusedVariables false

set_option maxRecDepth 100000 in
theorem pfree_d (p b l g n most : Nat) (S : ByteArray) (x : St) (W : World) (h : Po p b l g n most S W) (hl : Led l x.ls W) (ok : x.Ok) (um : FrameMode) :
    CallsD Tryz.prog 56 #[.pointer (some ⟨p, 0, none⟩)] um W
      fun e u' w' => u' = um ∧ ( e = .returned (.bool true) ∧ (w'.heap[p]? = some (.cells (palCells b 0) 160 (0, 0)) ∧ Bu.BShut b l w' ∧ Led l (x.give S.size).1.ls w') ∧ Tn W w' [p, b, l]) := by
  have c0 := h.c0
  have c1 := h.c1
  have pf := blk_free h.blk 1
  have hp : (W.setCell ⟨p, 1, none⟩ (.int .i64 0)).heap[p]? = some (.cells (palCells b 0) 160 (0, 0)) := (blk_set h.blk 1 _).trans rfl
  have K := Lib.hid (Bu.free_yes b l g S x (W.setCell ⟨p, 1, none⟩ (.int .i64 0)) (h.buf.grown (gb_set _ _ _ _) (by simpa using fun e => h.pb e.symm) (by simpa using fun e => h.pg e.symm)) (hl.grown (gb_set _ _ _ _) (by simpa using fun e => h.pl e.symm)) ok)
  have HP := Lib.hid hp
  have hpb := h.pb
  have hpl := h.pl
  clear h hl ok hp
  go_enter_d Tryz.func56, Tryz.ntmps56
  go_wp2_with fail
  refine K.out.mono ?_
  rintro e w1 ⟨rfl, ⟨h1, h2⟩, t⟩
  have HX := Lib.hid (show w1.heap[p]? = some (.cells (palCells b 0) 160 (0, 0)) from (t.block p (blk_lt HP.out) (by simp [hpb, hpl])).trans HP.out)
  have HY := Lib.hid (And.intro h1 h2)
  have HT := Lib.hid ((Tn.set W p 1 (.int .i64 0) (S := [p, b, l]) (by simp)).trans ((tn_of t).mono (by simp)))
  clear h1 h2 t
  go_wp2
  go_ret
  exact ⟨rfl, ⟨HX.out, HY.out⟩, HT.out⟩


end Go.Proofs.YtnieeckdldpebaaGreat.Pa
namespace Go.Proofs.YtnieeckdldpebaaGreat.Tr
open Go.ChangeShapes Go.WideShapes Go.ChangeAt Go.RowKit
open Go.Proofs.YtnieeckdldpebaaGreat.Sc Go.Proofs.YtnieeckdldpebaaGreat.Le Go.Proofs.YtnieeckdldpebaaGreat.Pa Go.Proofs.YtnieeckdldpebaaGreat.Tk Go.Proofs.YtnieeckdldpebaaGreat.Tg Go.Proofs.YtnieeckdldpebaaGreat.Tp Go.Proofs.YtnieeckdldpebaaGreat.Ra

theorem B0.top {W : World} {M c l r cb g : Nat} (h : B0 W M c l r cb g) : B0 W W.heap.size c l r cb g :=
  ⟨Nat.le_refl _, h.rc, h.cbc, h.cbl, h.gc, h.gl, h.rl, h.rg, h.cg, h.cw, h.lw, h.rw, h.bw, h.gw⟩
theorem po_stay {W v v' : World} {M0 M c l r cb g p b' g' n most : Nat} {S : ByteArray} (B : B0 W M0 c l r cb g) (hp : W.heap.size ≤ p) (hb : W.heap.size ≤ b') (hg : W.heap.size ≤ g') (hM : p < M ∧ b' < M ∧ g' < M) (h : Po p b' l g' n most S v) (hs : ∀ k, k < M → k ∉ [g, c, l] → v'.heap[k]? = v.heap[k]?) : Po p b' l g' n most S v' := by
  obtain ⟨mw, rc, cbc, cbl, gc, gl, rl, rg, cg, cw, lw, rw', bw, gw⟩ := B
  exact ⟨(hs p hM.1 (by simp; omega)).trans h.blk, ⟨(hs b' hM.2.1 (by simp; omega)).trans h.buf.blk, (hs g' hM.2.2 (by simp; omega)).trans h.buf.byt, h.buf.big, h.buf.bl, h.buf.bg, h.buf.gl⟩, h.size, h.le, h.big, h.pb, h.pl, h.pg⟩

/-- Behind the palette's giving back. -/
theorem FO.pal {W w u v v' : World} {c l r cb g gw gh hb n N1 m p b' q : Nat} {lf tp : Bool} {C : Nat → Nat → Int} {s : ByteArray} {x y : St} {Z : PZ} {e : Ending} {k b : Int} {R : ByteArray} (B : B0 W 0 c l r cb g) (hr : x.r = 0) (y0 : 0 ≤ x.by_) (t0 : Tn W w [c, l]) (tz : Tn w u [g, c, l]) (rd : Rd c l s q y u) (ro : Ro r l cb g gw gh R u)
    (hc : (Z.f = 0 ∧ e = .returned okT ∧ y = stp (stp (tkn x m) N1) Z.n ∧ R = rsl (plI gw gh lf tp) (fB C) Z.l n) ∨ (EB s (stp (tkn x m) N1) Z.f Z.p Z.n k b q y ∧ e = .returned (flT k b)))
    (hh : W.heap.size ≤ hb) (t : Tn u v [hb]) (hp : W.heap.size ≤ p) (hb' : W.heap.size ≤ b') (tf : Tn v v' [p, b', l]) (L : Led l (y.give ((m : Nat) : Int)).1.ls v') :
    FO W c l r cb g gw gh lf tp C s x Z.f Z.p (N1 + Z.n) m n Z.l e v' := by
  obtain ⟨mw, rc, cbc, cbl, gc, gl, rl, rg, cg, cw, lw, rw', bw, gw'⟩ := B
  have TV : Tn W v [g, c, l] := ((t0.mono (by intro i hi; simp at hi ⊢; omega)).trans tz).over t (by intro i hi; simp at hi; left; omega)
  have TW : Tn W v' [g, c, l] := TV.over tf (by intro i hi; simp at hi ⊢; omega)
  have rd1 := rd.own t (by simp; omega) (by simp; omega)
  have ro1 := (ro.turned (tB t) (by simp; omega) (by simp; omega) (by simp; omega)).turned (tB tf) (by simp; omega) (by simp; omega) (by simp; omega)
  have rd2 : Rd c l s q (y.give ((m : Nat) : Int)).1 v' := ⟨rd1.so.turned tf (by have := rd1.so.bl; simp; omega), L, rd1.ok.give _⟩
  have lm1 : Lm x (stp (tkn x m) N1) := ⟨rfl, rfl, rfl, rfl⟩
  have G := fun (hy : y = stp (stp (tkn x m) N1) Z.n ∨ y = spent (stp (tkn x m) N1)) => give_end8 (x := x) (x1 := stp (tkn x m) N1) (y := y) (n := ((m : Nat) : Int)) (N := Z.n) lm1 rfl y0 (by omega) hy
  rcases hc with ⟨hf, he, hy, hR⟩ | ⟨⟨hq, E⟩, he⟩
  · have g1 := G (.inl hy)
    exact ⟨q, _, rd2, TW, g1.1, g1.2.1, ⟨_, ro1⟩, .inl ⟨hf, he, by rw [g1.2.2, hy]; exact hr, by rw [← hR]; exact ro1⟩⟩
  · rcases E with ⟨f0, hk, hb, hy⟩ | ⟨hs, hk, hb, hy⟩
    · have g1 := G (.inl hy)
      exact ⟨q, _, rd2, TW, g1.1, g1.2.1, ⟨_, ro1⟩, .inr (.inl ⟨f0, by rw [he, hk, hb], by rw [g1.2.2, hy]; exact hr⟩)⟩
    · have g1 := G (.inr hy)
      have hs' : x.s < x.st + (N1 : Int) + Z.n := hs
      exact ⟨q, _, rd2, TW, g1.1, g1.2.1, ⟨_, ro1⟩, .inr (.inr ⟨.inl (by omega), ⟨q, hq, by rw [he, hk, hb]⟩, by rw [g1.2.2, hy]; show (3 : Int) ≠ 0; decide⟩)⟩

set_option maxRecDepth 100000 in
set_option maxHeartbeats 4000000 in
theorem fill_pal (W : World) (c l r cb g sz n p0 a0 N1 : Nat) (nm x2 fs cnt en gw gh d a : Nat) (mp lf tp : Bool) (C : Nat → Nat → Int) (KD PL : Nat → Nat) (s : ByteArray) (x : St) (B : B0 W 0 c l r cb g)
    (hb : KB s KD PL sz) (hC : ∀ o j, 0 ≤ C o j ∧ C o j ≤ 255) (DD : Nat → Nat → Int) (KX0 : ∀ p b' g' S, W.heap.size ≤ p → W.heap.size ≤ b' → W.heap.size ≤ g' → EntOf S cnt DD → CodeR c l s sz #[.int .i64 nm, .bool mp, .int .i64 x2, .int .i64 fs, .int .i64 cnt, .int .i64 en, .int .i64 gw, .int .i64 gh, .int .i64 d, .int .i64 a, .bool lf, .bool tp] (.pointer (some ⟨p, 0, none⟩)) (fun u => Po p b' l g' cnt cnt S u) C KD PL) (hN : gw * gh = n) (h1 : 1 ≤ gw) (hw : gw ≤ 16384) (hh : gh ≤ 16384) (hr : x.r = 0) (R : Rd c l s p0 x W) (O : Ro r l cb g gw gh (Bu.rep 0 (4 * n)) W) (ok : Prop) (hok : ok → a0 ≤ s.size) (F1 N2 B2 : Nat)
    (KM0 : ∀ u, Rd c l s p0 x u → Calls Tryz.prog 55 #[.pointer (some ⟨c, 0, none⟩), .agg #[.int .i64 nm, .bool mp, .int .i64 x2, .int .i64 fs, .int .i64 cnt, .int .i64 en, .int .i64 gw, .int .i64 gh, .int .i64 d, .int .i64 a, .bool lf, .bool tp]] u (fun e w' => (ok ∧ MPal u c l s x a0 N1 cnt DD e w') ∨ MBad u c l s x F1 N2 B2 e w')) :
    Calls Tryz.prog 30 #[.pointer (some ⟨c, 0, none⟩), .agg #[.int .i64 nm, .bool mp, .int .i64 x2, .int .i64 fs, .int .i64 cnt, .int .i64 en, .int .i64 gw, .int .i64 gh, .int .i64 d, .int .i64 a, .bool lf, .bool tp], .pointer (some ⟨r, 0, none⟩)] W
      (fun e w' => (ok ∧ FO W c l r cb g gw gh lf tp C s x (allZ KD PL sz s (decide (9 ≤ (x2 : Int)) && decide ((x2 : Int) ≤ 11)) n a0).f (allZ KD PL sz s (decide (9 ≤ (x2 : Int)) && decide ((x2 : Int) ≤ 11)) n a0).p (N1 + (allZ KD PL sz s (decide (9 ≤ (x2 : Int)) && decide ((x2 : Int) ≤ 11)) n a0).n) (4 * cnt) n (allZ KD PL sz s (decide (9 ≤ (x2 : Int)) && decide ((x2 : Int) ≤ 11)) n a0).l e w') ∨ FX W c l r cb g gw gh s x F1 N2 B2 e w') := by
  obtain ⟨Z, hZ⟩ : ∃ Z, allZ KD PL sz s (decide (9 ≤ (x2 : Int)) && decide ((x2 : Int) ≤ 11)) n a0 = Z := ⟨_, rfl⟩
  rw [hZ]
  have KR0 := fun u (hk : ok) p b' g' S (hp : W.heap.size ≤ p) (hb' : W.heap.size ≤ b') (hg' : W.heap.size ≤ g') (hE : EntOf S cnt DD) (M : Nat) (hM : p < M ∧ b' < M ∧ g' < M) (Bq : B0 u M c l r cb g) (Ru : Rd c l s a0 (stp (tkn x (4 * cnt)) N1) u) (Ou : Ro r l cb g gw gh (Bu.rep 0 (4 * n)) u) (Pu : Po p b' l g' cnt cnt S u) => tread_calls u M c l r cb g sz n a0 nm x2 fs cnt en gw gh d a mp lf tp (some ⟨p, 0, none⟩) (fun u => Po p b' l g' cnt cnt S u) C KD PL s (stp (tkn x (4 * cnt)) N1) Bq (fun v v' hv hs => po_stay B hp hb' hg' hM hv hs) hb hC (KX0 p b' g' S hp hb' hg' hE) hN h1 hw hh hr (hok hk) Ru Ou Pu
  simp only [hZ] at KR0
  have KR := Lib.hid KR0
  have KM := Lib.hid KM0
  have HB := Lib.hid B
  have HS := Lib.hid (And.intro R O)
  have HOK := Lib.hid hok
  have HRR := Lib.hid hr
  obtain ⟨Q, hQ⟩ : ∃ Q : Ending → World → Prop, (fun e w' => (ok ∧ FO W c l r cb g gw gh lf tp C s x Z.f Z.p (N1 + Z.n) (4 * cnt) n Z.l e w') ∨ FX W c l r cb g gw gh s x F1 N2 B2 e w') = Q := ⟨_, rfl⟩
  rw [hQ]
  have HQ := Lib.hid hQ
  clear KR0 KM0 B hb hC KX0 hN h1 hw hh hr R O hok hZ hQ
  go_enter_defers Tryz.func30, Tryz.ntmps30
  go_wp2_with fail
  have g2 : W.grownBy ((W.alloc (.cells #[.int .i64 nm, .bool mp, .int .i64 x2, .int .i64 fs, .int .i64 cnt, .int .i64 en, .int .i64 gw, .int .i64 gh, .int .i64 d, .int .i64 a, .bool lf, .bool tp] 55)).alloc (.cells #[.int .i64 0, .int .i64 0, .int .i64 0] 29)) none := gb_trans (World.grownBy_alloc _ _ none) (World.grownBy_alloc _ _ none)
  have F0 : Fl (W.heap.size + 1) 0 0 0 ((W.alloc (.cells #[.int .i64 nm, .bool mp, .int .i64 x2, .int .i64 fs, .int .i64 cnt, .int .i64 en, .int .i64 gw, .int .i64 gh, .int .i64 d, .int .i64 a, .bool lf, .bool tp] 55)).alloc (.cells #[.int .i64 0, .int .i64 0, .int .i64 0] 29)) := blk_at1
  have X0 : ((W.alloc (.cells #[.int .i64 nm, .bool mp, .int .i64 x2, .int .i64 fs, .int .i64 cnt, .int .i64 en, .int .i64 gw, .int .i64 gh, .int .i64 d, .int .i64 a, .bool lf, .bool tp] 55)).alloc (.cells #[.int .i64 0, .int .i64 0, .int .i64 0] 29)).heap[W.heap.size]? = some (.cells #[.int .i64 nm, .bool mp, .int .i64 x2, .int .i64 fs, .int .i64 cnt, .int .i64 en, .int .i64 gw, .int .i64 gh, .int .i64 d, .int .i64 a, .bool lf, .bool tp] 55 (0, 0)) := old0 (World.grownBy_alloc _ _ none) blk_at (by rw [size_alloc]; omega) (by simp)
  obtain ⟨hd, hhd⟩ : ∃ q, W.heap.size = q := ⟨_, rfl⟩
  rw [hhd] at F0 X0 ⊢
  generalize ((W.alloc (.cells #[.int .i64 nm, .bool mp, .int .i64 x2, .int .i64 fs, .int .i64 cnt, .int .i64 en, .int .i64 gw, .int .i64 gh, .int .i64 d, .int .i64 a, .bool lf, .bool tp] 55)).alloc (.cells #[.int .i64 0, .int .i64 0, .int .i64 0] 29)) = w2 at g2 F0 X0 ⊢
  have HH := Lib.hid hhd
  have HF := Lib.hid F0
  have HX := Lib.hid X0
  have HG := Lib.hid g2
  clear F0 X0 g2 hhd
  refine (KM.out w2 (HS.out.1.grown HG.out)).mono ?_
  rintro e u1 hm
  obtain ⟨hk, p, b', g', S, rfl, hPo, hE, R1, t1, gp, gb', gg, hst, hbx⟩ | ⟨k, j, q, y, rfl, Ry, ty, Ly, hby, j0, j1, hc4⟩ := hm
  · have HX1 := Lib.hid (kept t1 HX.out (by have := HB.out.cw; have := HB.out.lw; have := HH.out; simp; omega))
    have HF1 := Lib.hid (HF.out.turned t1 (by have := HB.out.cw; have := HB.out.lw; have := HH.out; simp; omega))
    have HT1 := Lib.hid t1
    have HR1 := Lib.hid R1
    have HK := Lib.hid (And.intro hk hst)
    have HPO := Lib.hid hPo
    have HE := Lib.hid hE
    have hgw := HG.out.size
    have HGP := Lib.hid (show W.heap.size ≤ p ∧ W.heap.size ≤ b' ∧ W.heap.size ≤ g' ∧ w2.heap.size ≤ p ∧ w2.heap.size ≤ b' ∧ w2.heap.size ≤ g' from by omega)
    clear hk R1 t1 hst hPo hE gp gb' gg hbx hgw
    have h0 : u1.cell? ⟨hd, 0, none⟩ = some (.int .i64 nm) := blk_cell HX1.out 0
    have h1 : u1.cell? ⟨hd, 1, none⟩ = some (.bool mp) := blk_cell HX1.out 1
    have h2 : u1.cell? ⟨hd, 2, none⟩ = some (.int .i64 x2) := blk_cell HX1.out 2
    have h3 : u1.cell? ⟨hd, 3, none⟩ = some (.int .i64 fs) := blk_cell HX1.out 3
    have h4 : u1.cell? ⟨hd, 4, none⟩ = some (.int .i64 cnt) := blk_cell HX1.out 4
    have h5 : u1.cell? ⟨hd, 5, none⟩ = some (.int .i64 en) := blk_cell HX1.out 5
    have h6 : u1.cell? ⟨hd, 6, none⟩ = some (.int .i64 gw) := blk_cell HX1.out 6
    have h7 : u1.cell? ⟨hd, 7, none⟩ = some (.int .i64 gh) := blk_cell HX1.out 7
    have h8 : u1.cell? ⟨hd, 8, none⟩ = some (.int .i64 d) := blk_cell HX1.out 8
    have h9 : u1.cell? ⟨hd, 9, none⟩ = some (.int .i64 a) := blk_cell HX1.out 9
    have h10 : u1.cell? ⟨hd, 10, none⟩ = some (.bool lf) := blk_cell HX1.out 10
    have h11 : u1.cell? ⟨hd, 11, none⟩ = some (.bool tp) := blk_cell HX1.out 11
    have hlt := blk_lt HX1.out
    go_wp2_with fail
    have ga := World.grownBy_alloc u1 (.cells #[.int .i64 0, .int .i64 0, .int .i64 0] 29) none
    generalize u1.alloc (.cells #[.int .i64 0, .int .i64 0, .int .i64 0] 29) = w3 at ga ⊢
    have HGA := Lib.hid ga
    have HT3 := Lib.hid (((Tn.gb HG.out (S := [c, l]) (by simp)).trans HT1.out).trans (Tn.gb ga (by simp)))
    have HF3 := Lib.hid (HF1.out.turned (Tn.gb ga (S := []) (by simp)) (by simp))
    clear ga
    have HP3 := Lib.hid (HPO.out.grown HGA.out (by simp) (by simp) (by simp))
    have hM : p < w3.heap.size ∧ b' < w3.heap.size ∧ g' < w3.heap.size := ⟨blk_lt HP3.out.blk, HP3.out.buf.lt, HP3.out.buf.glt⟩
    refine (KR.out w3 HK.out.1 p b' g' S HGP.out.1 HGP.out.2.1 HGP.out.2.2.1 HE.out w3.heap.size hM ((HB.out.grow HT3.out.size).top) (HR1.out.grown HGA.out) (((HS.out.2.grown HG.out (by simp) (by simp) (by simp)).turned (tB HT1.out) (by have := HB.out.rc; have := HB.out.rl; simp; omega) (by have := HB.out.cbc; have := HB.out.cbl; simp; omega) (by have := HB.out.gc; have := HB.out.gl; simp; omega)).grown HGA.out (by simp) (by simp) (by simp)) HP3.out).mono ?_
    rintro e u4 hz
    have f4 := HF3.out.turned hz.1 (by have := HB.out.cw; have := HB.out.lw; have := HB.out.gw; have := HH.out; simp; omega)
    have r0 := f4.c0
    have r1 := f4.c1
    have r2 := f4.c2
    have rf0 := f4.free 0
    have rf1 := f4.free 1
    have rf2 := f4.free 2
    have rl := f4.lt
    have HZ4 := Lib.hid hz
    have HF4 := Lib.hid f4
    clear f4 h0 h1 h2 h3 h4 h5 h6 h7 h8 h9 h10 h11 hlt
    obtain ⟨tz, pz, ⟨hfz, rfl, rdz, roz⟩ | ⟨kk, bb, qz, yz, Rz, Ez, rfl, rdz, roz⟩⟩ := hz
    · have H5 := Lib.hid (And.intro tz (And.intro pz (And.intro rdz (And.intro roz hfz))))
      clear tz pz rdz roz hfz
      unfold okT
      go_wp2
      have t5 : Tn u4 (((u4.setCell ⟨hd + 1, 0, none⟩ (.int .i64 0)).setCell ⟨hd + 1, 1, none⟩ (.int .i64 0)).setCell ⟨hd + 1, 2, none⟩ (.int .i64 0)) [hd + 1] := (((Tn.refl u4 [hd + 1]).st (by simp)).st (by simp)).st (by simp)
      have f5 : Fl (hd + 1) 0 0 0 (((u4.setCell ⟨hd + 1, 0, none⟩ (.int .i64 0)).setCell ⟨hd + 1, 1, none⟩ (.int .i64 0)).setCell ⟨hd + 1, 2, none⟩ (.int .i64 0)) := HF4.out.set 0 0 0
      generalize (((u4.setCell ⟨hd + 1, 0, none⟩ (.int .i64 0)).setCell ⟨hd + 1, 1, none⟩ (.int .i64 0)).setCell ⟨hd + 1, 2, none⟩ (.int .i64 0)) = v at t5 f5 ⊢
      obtain ⟨gp, gb', gg, gp2, gb2, gg2⟩ := HGP.out
      have hlt5 := HF.out.lt
      have hH := HH.out
      have hcw := HB.out.cw
      have hlw := HB.out.lw
      have P5 := Rg.po_turned H5.out.2.1 t5 (by simp; omega) (by simp; omega) (by simp; omega)
      have R5 := H5.out.2.2.1.own t5 (by simp; omega) (by simp; omega)
      refine leaves_cons (f := 56) (args := #[.pointer (some ⟨p, 0, none⟩)]) (by simp) (by simp [go_sem]) ?_
      refine (pfree_d p b' l g' cnt cnt S _ v P5 R5.led R5.ok .returning).mono ?_
      rintro e5 um v5 ⟨rfl, rfl, ⟨_, _, L5⟩, t6⟩
      have f6 := f5.turned t6 (by simp; omega)
      have w0 := f6.c0
      have w1 := f6.c1
      have w2 := f6.c2
      rw [HP3.out.size] at L5
      refine ⟨okT, by unfold okT; simp only [results, Tryz.results30]; go_simp, ?_⟩
      rw [← HQ.out]
      exact .inl ⟨HK.out.1, FO.pal HB.out HRR.out HS.out.1.ok.y0 HT3.out H5.out.1 H5.out.2.2.1 H5.out.2.2.2.1 (k := 0) (b := 0) (.inl ⟨H5.out.2.2.2.2, rfl, rfl, rfl⟩) (by omega) t5 gp gb' t6 L5⟩
    · have H5 := Lib.hid (And.intro tz (And.intro pz (And.intro rdz (And.intro roz Ez))))
      clear tz pz rdz roz Ez
      unfold flT
      go_wp2
      have t5 : Tn u4 (((u4.setCell ⟨hd + 1, 0, none⟩ (.int .i64 kk)).setCell ⟨hd + 1, 1, none⟩ (.int .i64 2)).setCell ⟨hd + 1, 2, none⟩ (.int .i64 bb)) [hd + 1] := (((Tn.refl u4 [hd + 1]).st (by simp)).st (by simp)).st (by simp)
      have f5 : Fl (hd + 1) kk 2 bb (((u4.setCell ⟨hd + 1, 0, none⟩ (.int .i64 kk)).setCell ⟨hd + 1, 1, none⟩ (.int .i64 2)).setCell ⟨hd + 1, 2, none⟩ (.int .i64 bb)) := HF4.out.set kk 2 bb
      generalize (((u4.setCell ⟨hd + 1, 0, none⟩ (.int .i64 kk)).setCell ⟨hd + 1, 1, none⟩ (.int .i64 2)).setCell ⟨hd + 1, 2, none⟩ (.int .i64 bb)) = v at t5 f5 ⊢
      obtain ⟨gp, gb', gg, gp2, gb2, gg2⟩ := HGP.out
      have hlt5 := HF.out.lt
      have hH := HH.out
      have hcw := HB.out.cw
      have hlw := HB.out.lw
      have P5 := Rg.po_turned H5.out.2.1 t5 (by simp; omega) (by simp; omega) (by simp; omega)
      have R5 := H5.out.2.2.1.own t5 (by simp; omega) (by simp; omega)
      refine leaves_cons (f := 56) (args := #[.pointer (some ⟨p, 0, none⟩)]) (by simp) (by simp [go_sem]) ?_
      refine (pfree_d p b' l g' cnt cnt S _ v P5 R5.led R5.ok .returning).mono ?_
      rintro e5 um v5 ⟨rfl, rfl, ⟨_, _, L5⟩, t6⟩
      have f6 := f5.turned t6 (by simp; omega)
      have w0 := f6.c0
      have w1 := f6.c1
      have w2 := f6.c2
      rw [HP3.out.size] at L5
      refine ⟨flT kk bb, by unfold flT; simp only [results, Tryz.results30]; go_simp, ?_⟩
      rw [← HQ.out]
      exact .inl ⟨HK.out.1, FO.pal HB.out HRR.out HS.out.1.ok.y0 HT3.out H5.out.1 H5.out.2.2.1 H5.out.2.2.2.1 (.inr ⟨H5.out.2.2.2.2, rfl⟩) (by omega) t5 gp gb' t6 L5⟩
  · have HF1 := Lib.hid (HF.out.turned ty (by have := HB.out.cw; have := HB.out.lw; have := HH.out; simp; omega))
    have hkn : k ≠ 0 := by rcases hc4 with ⟨h1, h2, _⟩ | ⟨h1, _⟩ <;> omega
    have HT1 := Lib.hid ((Tn.gb HG.out (S := [c, l]) (by simp)).trans ty)
    have HO1 := Lib.hid ((HS.out.2.grown HG.out (by simp) (by simp) (by simp)).turned (tB ty) (by have := HB.out.rc; have := HB.out.rl; simp; omega) (by have := HB.out.cbc; have := HB.out.cbl; simp; omega) (by have := HB.out.gc; have := HB.out.gl; simp; omega))
    have HY := Lib.hid (And.intro Ry (And.intro Ly (And.intro hby (And.intro j0 (And.intro j1 hc4)))))
    have r0 := HF1.out.c0
    have r1 := HF1.out.c1
    have r2 := HF1.out.c2
    have rf0 := HF1.out.free 0
    have rf1 := HF1.out.free 1
    have rf2 := HF1.out.free 2
    have rl := HF1.out.lt
    clear Ry ty Ly hby j0 j1 hc4
    go_wp2
    have t5 : Tn u1 ((((u1.setCell ⟨hd + 1, 0, none⟩ (.int .i64 k)).setCell ⟨hd + 1, 1, none⟩ (.int .i64 2)).setCell ⟨hd + 1, 2, none⟩ (.int .i64 j)).alloc (.cells #[.int .i64 k, .int .i64 2, .int .i64 j] 29)) [hd + 1] := ((((Tn.refl u1 [hd + 1]).st (by simp)).st (by simp)).st (by simp)).trans (Tn.gb (World.grownBy_alloc _ _ none) (by simp))
    refine bodyPostD_ret (v := flT k j) (by unfold flT; simp only [results, Tryz.results30]; go_simp) rfl ?_
    rw [← HQ.out]
    obtain ⟨mw, rc, cbc, cbl, gc, gl, rl', rg, cg, cw, lw, rw', bw, gw'⟩ := HB.out
    have hH := HH.out
    exact .inr (FO.bad HB.out (HO1.out.turned (tB t5) (by simp; omega) (by simp; omega) (by simp; omega)) (HY.out.1.own t5 (by simp; omega) (by simp; omega)) ((HT1.out.mono (by intro i hi; simp at hi ⊢; omega)).over t5 (by intro i hi; simp at hi; left; omega)) HY.out.2.1 HY.out.2.2.1 HY.out.2.2.2.1 HY.out.2.2.2.2.1 HY.out.2.2.2.2.2)

end Go.Proofs.YtnieeckdldpebaaGreat.Tr

/- Layer 19: Decode, by any ledger, where no head is good (written by wip/gen/trc.py). -/
namespace Go.Proofs.YtnieeckdldpebaaGreat.Tr
open Go.ChangeShapes Go.WideShapes Go.ChangeAt Go.RowKit
open Go.Proofs.YtnieeckdldpebaaGreat.Sc Go.Proofs.YtnieeckdldpebaaGreat.Le Go.Proofs.YtnieeckdldpebaaGreat.Pa Go.Proofs.YtnieeckdldpebaaGreat.Tk Go.Proofs.YtnieeckdldpebaaGreat.Tg Go.Proofs.YtnieeckdldpebaaGreat.Tp Go.Proofs.YtnieeckdldpebaaGreat.Ra
set_option linter.unusedVariables false

/-- Behind Decode. -/
def DT (W : World) (s : ByteArray) (c l : Nat) (x : St) (f p w h N B : Nat) (A : ByteArray) (e : Ending) (w' : World) : Prop :=
  ∃ (q : Nat) (y : St), Rd c l s q y w' ∧ Tn W w' [c, l] ∧ Lm x y ∧
    ((f = 0 ∧ (∃ r cb g, e = .returned (.tuple #[.pointer (some ⟨r, 0, none⟩), okT]) ∧ Ro r l cb g w h A w' ∧ W.heap.size ≤ r ∧ W.heap.size ≤ cb ∧ W.heap.size ≤ g) ∧ y.by_ = x.by_ + ((4 * (w * h) : Nat) : Int) ∧ y.r = 0 ∧ (w : Int) ≤ x.w ∧ (h : Int) ≤ x.h) ∨
     (f ≠ 0 ∧ e = .returned (.tuple #[.pointer none, flT f p]) ∧ y.r = 0 ∧ y.by_ = x.by_) ∨
     ((x.w < w ∨ x.h < h ∨ x.b < x.by_ + (B : Int) ∨ x.s < x.st + (N : Int)) ∧ (∃ j : Nat, j ≤ s.size ∧ e = .returned (.tuple #[.pointer none, flT 4 j])) ∧ y.r ≠ 0 ∧ y.by_ = x.by_))
/-- A head is not read. -/
def HBad (W : World) (c l : Nat) (s : ByteArray) (x : St) (f p N : Nat) (e : Ending) (w' : World) : Prop :=
  ∃ (k j : Int) (q : Nat) (y : St), e = .returned (.tuple #[.agg #[.int .i64 0, .bool false, .int .i64 0, .int .i64 0, .int .i64 0, .int .i64 0, .int .i64 0, .int .i64 0, .int .i64 0, .int .i64 0, .bool false, .bool false], .agg #[.int .i64 k, .int .i64 2, .int .i64 j]]) ∧ Rd c l s q y w' ∧ Tn W w' [c, l] ∧ Lm x y ∧ y.by_ = x.by_ ∧
    ((f ≠ 0 ∧ k = f ∧ j = p ∧ y.r = 0) ∨ (k = 4 ∧ 0 ≤ j ∧ j ≤ s.size ∧ y.r ≠ 0 ∧ x.s < x.st + (N : Int)))

set_option maxRecDepth 100000 in
set_option maxHeartbeats 8000000 in
theorem tdec_bad (c l : Nat) (s : ByteArray) (x : St) (f p w h N B : Nat) (A : ByteArray) (W : World) (R : Rd c l s 0 x W) (KH0 : ∀ u, Rd c l s 0 x u → Calls Tryz.prog 26 #[.pointer (some ⟨c, 0, none⟩)] u (HBad u c l s x f p N)) :
    Calls Tryz.prog 10 #[.pointer (some ⟨c, 0, none⟩)] W (DT W s c l x f p w h N B A) := by
  obtain ⟨Q, hQ⟩ : ∃ Q : Ending → World → Prop, DT W s c l x f p w h N B A = Q := ⟨_, rfl⟩
  rw [hQ]
  have HQ := Lib.hid hQ
  have KH := Lib.hid KH0
  have hc := R.clt
  have hl := R.llt
  have HR0 := Lib.hid (R.grown (World.grownBy_alloc W (.cells #[.int .i64 0, .int .i64 0, .int .i64 0] 29) none))
  have HF0 := Lib.hid (Fl.new W)
  have HT0 := Lib.hid (Tn.gb (World.grownBy_alloc W (.cells #[.int .i64 0, .int .i64 0, .int .i64 0] 29) none) (S := [c, l]) (by simp))
  clear R hQ KH0
  go_enter Tryz.func10, Tryz.ntmps10
  go_wp2_with fail
  refine (KH.out _ HR0.out).mono ?_
  rintro e w3 ⟨k, j, q, y, rfl, R3, T3, lm, hby, hc4⟩
  have G4 := gb_trans (World.grownBy_alloc w3 (.cells #[.int .i64 0, .bool false, .int .i64 0, .int .i64 0, .int .i64 0, .int .i64 0, .int .i64 0, .int .i64 0, .int .i64 0, .int .i64 0, .bool false, .bool false] 55) none) (World.grownBy_alloc _ (.cells #[.int .i64 k, .int .i64 2, .int .i64 j] 29) none)
  have F4 : Fl (w3.heap.size + 1) k 2 j ((w3.alloc (.cells #[.int .i64 0, .bool false, .int .i64 0, .int .i64 0, .int .i64 0, .int .i64 0, .int .i64 0, .int .i64 0, .int .i64 0, .int .i64 0, .bool false, .bool false] 55)).alloc (.cells #[.int .i64 k, .int .i64 2, .int .i64 j] 29)) := blk_at1
  have T4 := (HT0.out.trans T3).trans (Tn.gb G4 (by simp))
  have R4 := R3.grown G4
  have L4 := (HF0.out.turned T3 (by simp; omega)).turned (Tn.gb G4 (S := [c, l]) (by simp)) (by simp; omega)
  have z3 := T3.size
  have z0 : (W.alloc (.cells #[.int .i64 0, .int .i64 0, .int .i64 0] 29)).heap.size = W.heap.size + 1 := size_alloc _ _
  have p0 := F4.c0
  have p1 := F4.c1
  have p2 := F4.c2
  have q0 := L4.c0
  have q1 := L4.c1
  have q2 := L4.c2
  have qf0 := L4.free 0
  have qf1 := L4.free 1
  have qf2 := L4.free 2
  have m0 : ¬ w3.heap.size + 1 = W.heap.size := by omega
  have m1 : ¬ W.heap.size = w3.heap.size + 1 := by omega
  have hkn : k ≠ 0 := by rcases hc4 with ⟨h1, h2, _⟩ | ⟨h1, _⟩ <;> omega
  have HT4 := Lib.hid T4
  have HR4 := Lib.hid R4
  have HY := Lib.hid (And.intro lm (And.intro hby hc4))
  clear G4 F4 T4 R4 L4 T3 R3 z3 z0 HR0 HF0 HT0 KH lm hby hc4
  go_wp2_with fail
  generalize ((w3.alloc (.cells #[.int .i64 0, .bool false, .int .i64 0, .int .i64 0, .int .i64 0, .int .i64 0, .int .i64 0, .int .i64 0, .int .i64 0, .int .i64 0, .bool false, .bool false] 55)).alloc (.cells #[.int .i64 k, .int .i64 2, .int .i64 j] 29)) = w4 at p0 p1 p2 q0 q1 q2 qf0 qf1 qf2 HT4 HR4 ⊢
  go_region
  go_wp2
  refine bodyPost_ret (v := .tuple #[.pointer none, flT k j]) (by simp only [results, Tryz.results10, flT]; go_simp) rfl ?_
  rw [← HQ.out]
  have t5 : Tn w4 (((w4.setCell ⟨W.heap.size, 0, none⟩ (.int .i64 k)).setCell ⟨W.heap.size, 1, none⟩ (.int .i64 2)).setCell ⟨W.heap.size, 2, none⟩ (.int .i64 j)).drew [W.heap.size] := ((((Tn.refl w4 [W.heap.size]).st (by simp)).st (by simp)).st (by simp)).dr
  refine ⟨q, y, HR4.out.own t5 (by simp; omega) (by simp; omega), HT4.out.over t5 (by intro i hi; simp at hi; left; omega), HY.out.1, ?_⟩
  obtain ⟨f0, hk, hj, hy⟩ | ⟨hk, j0, j1, hy, hs⟩ := HY.out.2.2
  · exact .inr (.inl ⟨f0, by rw [hk, hj], hy, HY.out.2.1⟩)
  · exact .inr (.inr ⟨.inr (.inr (.inr hs)), ⟨j.toNat, by omega, by rw [hk, Int.toNat_of_nonneg j0]⟩, hy, HY.out.2.1⟩)

end Go.Proofs.YtnieeckdldpebaaGreat.Tr
