/- Texts of one kind, one behind the other: DhQ1, DhQ2, Dc6. -/
import Derived.Test.YtikjfmpdfeaooaaDoorG22
import Derived.Test.YtikjfmpdfeaooaaDoorG28
import Derived.Test.YtikjfmpdfeaooaaDoorG29
import Derived.Test.YtikjfmpdfeaooaaDoorG31
import Derived.Test.YtikjfmpdfeaooaaDoorG34
import Derived.Test.YtikjfmpdfeaooaaDoorG38
/- Layer 20: masks that are told, by both sides, told more of (written by wip/gen/dhq.py). -/
namespace Go.Proofs.YtikjfmpdfeaooaaDoor.Dh
open Go.ChangeShapes Go.WideShapes Go.ChangeAt Go.RowKit
open Go.Proofs.YtikjfmpdfeaooaaDoor.Le Go.Proofs.YtikjfmpdfeaooaaDoor.Sr Go.Proofs.YtikjfmpdfeaooaaDoor.Ma
set_option linter.unusedVariables false

/-- Masks that are told and good, for both: where they end, and what the four are. -/
def MskGoodY (T z : ByteArray) (p n : Nat) (fm : Int) (x : St) (X Y P D C : Int) : Prop := ∃ (s m : Nat → Nat) (qq : Nat) (yy : St), (∀ k, k < 4 → okP (s k) (m k)) ∧ p + 12 ≤ qq ∧ qq ≤ T.size ∧ (yy = x ∨ yy = (x.work 1).1) ∧ qq = p + (if n = 40 then 52 else n) ∧ FourIs (fun k => if k = 0 then ((maskW (s 0) (m 0) : Nat) : Int) else if k = 1 then ((maskW (s 1) (m 1) : Nat) : Int) else if k = 2 then ((maskW (s 2) (m 2) : Nat) : Int) else ((maskW (s 3) (m 3) : Nat) : Int)) D #[.int .i64 (s 0 : Nat), .int .i64 (m 0 : Nat), .int .i64 (s 1 : Nat), .int .i64 (m 1 : Nat), .int .i64 (s 2 : Nat), .int .i64 (m 2 : Nat), .int .i64 (s 3 : Nat), .int .i64 (m 3 : Nat)] 0 0 ∧ (n = 40 → (0 : Int) = (maskW (s 3) (m 3) : Nat)) ∧ (∀ (b l f : Nat) (W : World), Tab W → 0 ≠ b → 0 ≠ l → SL b l T (p + n) f T.size x W → Calls Tryd.prog 25 #[.agg #[.pointer (some ⟨b, 0, none⟩), .int .i64 fm, .int .i64 (p : Nat)], .string z, .agg #[.int .i64 (n : Nat), .int .i64 X, .int .i64 Y, .int .i64 P, .int .i64 D, .int .i64 3, .int .i64 C]] W fun e w' => e = .returned (.tuple #[.agg #[.int .i64 (s 0 : Nat), .int .i64 (m 0 : Nat), .int .i64 (s 1 : Nat), .int .i64 (m 1 : Nat), .int .i64 (s 2 : Nat), .int .i64 (m 2 : Nat), .int .i64 (s 3 : Nat), .int .i64 (m 3 : Nat)], flV 0 0 0]) ∧ SL b l T qq f T.size yy w' ∧ Tn W w' [b, l]) ∧ (∀ W : World, Calls Tryd.prog 35 #[.string T, .agg #[.int .i64 (n : Nat), .int .i64 X, .int .i64 (fa Y), .bool (decide (Y < 0)), .int .i64 D, .int .i64 3, .int .i64 (clrC D C), .int .i64 0, .int .i64 0, .int .i64 0, .int .i64 0, .int .i64 (p : Nat), .int .i64 ((p + n : Nat)), .int .i64 0, .int .i64 0], .int .i64 (T.size : Nat)] W fun e w' => e = .returned (.agg #[.int .i64 (n : Nat), .int .i64 X, .int .i64 (fa Y), .bool (decide (Y < 0)), .int .i64 D, .int .i64 3, .int .i64 (clrC D C), .int .i64 (maskW (s 0) (m 0) : Nat), .int .i64 (maskW (s 1) (m 1) : Nat), .int .i64 (maskW (s 2) (m 2) : Nat), .int .i64 (maskW (s 3) (m 3) : Nat), .int .i64 (p : Nat), .int .i64 (qq : Nat), .int .i64 0, .int .i64 0]) ∧ W.grownBy w' none)

theorem msky_40 (T z : ByteArray) (p : Nat) (hle : p + 40 ≤ T.size) (hbig : T.size ≤ 4611686018427387904) (hz : T.extract p (p + 40) = z) (X Y P D C : Int) (fm : Int) (x : St) (GW1 : GW 1 x) : MskBad T z p 40 fm x X Y P D C ∨ MskGoodY T z p 40 fm x X Y P D C := by
  have hzs : z.size = 40 := by rw [← hz, ByteArray.size_extract]; omega
  by_cases hsh : T.size < p + 52
  · refine .inl ⟨1, T.size, p + 40, (x.work 1).1, by decide, by decide, fun b l f W hT h1 h2 h => ?_, fun W => ?_⟩
    · exact cmasks_40_short b l T z p (p + 40) f T.size fm X Y P D C x W h GW1.ok (GW1.no (by decide) (by omega)) 1 T.size (by rw [if_pos (GW1.step (by decide)).r]; rfl)
    · exact rmasks_40_short T X (fa Y) D (clrC D C) (decide (Y < 0)) p T.size ((p + 40 : Nat) : Int) W (by omega) (by omega)
  obtain ⟨zb, hzb⟩ : ∃ zb, T.extract (p + 40) (p + 40 + 12) = zb := ⟨_, rfl⟩
  have hcat : z ++ zb = T.extract p (p + 52) := by
    rw [← hz, ← hzb]
    apply ByteArray.ext
    apply Array.toList_inj.1
    have e1 : (T.extract p (p + 52)).data.toList = (T.data.toList.drop p).take 52 := by rw [Lib.extract_data, Nat.add_sub_cancel_left]
    have e2 : (T.extract p (p + 40)).data.toList = (T.data.toList.drop p).take 40 := by rw [Lib.extract_data, Nat.add_sub_cancel_left]
    have e3 : (T.extract (p + 40) (p + 40 + 12)).data.toList = ((T.data.toList.drop p).drop 40).take 12 := by rw [Lib.extract_data, List.drop_drop, Nat.add_sub_cancel_left]
    rw [ByteArray.data_append, Array.toList_append, e1, e2, e3, ← List.take_add]
  have rd : rdB x (p + 40) T.size 12 = true := GW1.rd (by decide) (by decide) (by omega)
  obtain ⟨m0, e0⟩ : ∃ m : Int, ((w4 T (p + 40) : Nat) : Int) = m := ⟨_, rfl⟩
  obtain ⟨m1, e1⟩ : ∃ m : Int, ((w4 T (p + 44) : Nat) : Int) = m := ⟨_, rfl⟩
  obtain ⟨m2, e2⟩ : ∃ m : Int, ((w4 T (p + 48) : Nat) : Int) = m := ⟨_, rfl⟩
  obtain ⟨m3, e3⟩ : ∃ m : Int, (0 : Int) = m := ⟨_, rfl⟩
  have f0 : ((w4 (z ++ zb) 40 : Nat) : Int) = m0 := by rw [← e0, hcat, w4_ext T p (p + 52) 40 (by omega) (by omega)]
  have f1 : ((w4 (z ++ zb) 44 : Nat) : Int) = m1 := by rw [← e1, hcat, w4_ext T p (p + 52) 44 (by omega) (by omega)]
  have f2 : ((w4 (z ++ zb) 48 : Nat) : Int) = m2 := by rw [← e2, hcat, w4_ext T p (p + 52) 48 (by omega) (by omega)]
  rcases four_both (fun k => if k = 0 then m0 else if k = 1 then m1 else if k = 2 then m2 else m3) D with ⟨tt, c, ht, hc, KF⟩ | ⟨s, m, ho, hM, KF⟩
  · refine .inl ⟨2, (p : Int) + 40 + 4 * (tt : Int), (p + 52), (x.work 1).1, by decide, by decide, fun b l f W hT h1 h2 h => ?_, fun W => ?_⟩
    · have R := cmasks_40_bad b l T z p (p + 40) f T.size fm X Y P D C x W h hT h1 h2 GW1.ok rd hzs zb hzb tt c ht hc (by omega) m0 m1 m2 m3 f0 f1 f2 e3 KF
      rw [show (p : Int) + (40 + 4 * (tt : Int)) = (p : Int) + 40 + 4 * (tt : Int) from by omega] at R
      rw [show p + 40 + 12 = p + 52 from rfl] at R
      exact R
    · exact rmasks_40_bad T X (fa Y) D (clrC D C) (decide (Y < 0)) p T.size ((p + 40 : Nat) : Int) W (by omega) (by omega) trivial (by omega) tt c ht hc m0 m1 m2 m3 e0 e1 e2 e3 KF
  · have g0 : m0 = (maskW (s 0) (m 0) : Nat) := hM 0 (by decide)
    have g1 : m1 = (maskW (s 1) (m 1) : Nat) := hM 1 (by decide)
    have g2 : m2 = (maskW (s 2) (m 2) : Nat) := hM 2 (by decide)
    have g3 : m3 = (maskW (s 3) (m 3) : Nat) := hM 3 (by decide)
    refine .inr ⟨s, m, (p + 52), (x.work 1).1, ho, by omega, by omega, .inr rfl, rfl, by rw [← g0, ← g1, ← g2, ← g3]; exact KF, fun _ => by rw [← g3]; exact e3, fun b l f W hT h1 h2 h => ?_, fun W => ?_⟩
    · have R := cmasks_40_good b l T z p (p + 40) f T.size fm X Y P D C x W h hT h1 h2 GW1.ok rd hzs zb hzb _ _ _ _ _ _ _ _ m0 m1 m2 m3 f0 f1 f2 e3 KF
      rw [show p + 40 + 12 = p + 52 from rfl] at R
      exact R
    · rw [← g0, ← g1, ← g2, ← g3]
      exact rmasks_40_good T X (fa Y) D (clrC D C) (decide (Y < 0)) p T.size ((p + 40 : Nat) : Int) W (by omega) (by omega) trivial (by omega) m0 m1 m2 m3 e0 e1 e2 e3 _ KF

theorem msky_52 (T z : ByteArray) (p : Nat) (hle : p + 52 ≤ T.size) (hbig : T.size ≤ 4611686018427387904) (hz : T.extract p (p + 52) = z) (X Y P D C : Int) (fm : Int) (x : St) : MskBad T z p 52 fm x X Y P D C ∨ MskGoodY T z p 52 fm x X Y P D C := by
  have hzs : z.size = 52 := by rw [← hz, ByteArray.size_extract]; omega
  obtain ⟨m0, e0⟩ : ∃ m : Int, ((w4 T (p + 40) : Nat) : Int) = m := ⟨_, rfl⟩
  obtain ⟨m1, e1⟩ : ∃ m : Int, ((w4 T (p + 44) : Nat) : Int) = m := ⟨_, rfl⟩
  obtain ⟨m2, e2⟩ : ∃ m : Int, ((w4 T (p + 48) : Nat) : Int) = m := ⟨_, rfl⟩
  obtain ⟨m3, e3⟩ : ∃ m : Int, (0 : Int) = m := ⟨_, rfl⟩
  have f0 : ((w4 z 40 : Nat) : Int) = m0 := by rw [← e0, ← hz, w4_ext T p (p + 52) 40 (by omega) (by omega)]
  have f1 : ((w4 z 44 : Nat) : Int) = m1 := by rw [← e1, ← hz, w4_ext T p (p + 52) 44 (by omega) (by omega)]
  have f2 : ((w4 z 48 : Nat) : Int) = m2 := by rw [← e2, ← hz, w4_ext T p (p + 52) 48 (by omega) (by omega)]
  rcases four_both (fun k => if k = 0 then m0 else if k = 1 then m1 else if k = 2 then m2 else m3) D with ⟨tt, c, ht, hc, KF⟩ | ⟨s, m, ho, hM, KF⟩
  · refine .inl ⟨2, (p : Int) + 40 + 4 * (tt : Int), (p + 52), x, by decide, by decide, fun b l f W hT h1 h2 h => ?_, fun W => ?_⟩
    · have R := cmasks_52_bad b l T z p (p + 52) f T.size fm X Y P D C x W h hT h1 h2 hzs tt c ht hc (by omega) m0 m1 m2 m3 f0 f1 f2 e3 KF
      rw [show (p : Int) + (40 + 4 * (tt : Int)) = (p : Int) + 40 + 4 * (tt : Int) from by omega] at R
      exact R
    · exact rmasks_52_bad T X (fa Y) D (clrC D C) (decide (Y < 0)) p T.size ((p + 52 : Nat) : Int) W (by omega) (by omega) (by omega) (by omega) tt c ht hc m0 m1 m2 m3 e0 e1 e2 e3 KF
  · have g0 : m0 = (maskW (s 0) (m 0) : Nat) := hM 0 (by decide)
    have g1 : m1 = (maskW (s 1) (m 1) : Nat) := hM 1 (by decide)
    have g2 : m2 = (maskW (s 2) (m 2) : Nat) := hM 2 (by decide)
    have g3 : m3 = (maskW (s 3) (m 3) : Nat) := hM 3 (by decide)
    refine .inr ⟨s, m, (p + 52), x, ho, by omega, by omega, .inl rfl, rfl, by rw [← g0, ← g1, ← g2, ← g3]; exact KF, fun h => absurd h (by decide), fun b l f W hT h1 h2 h => ?_, fun W => ?_⟩
    · have R := cmasks_52_good b l T z p (p + 52) f T.size fm X Y P D C x W h hT h1 h2 hzs _ _ _ _ _ _ _ _ m0 m1 m2 m3 f0 f1 f2 e3 KF
      exact R
    · rw [← g0, ← g1, ← g2, ← g3]
      exact rmasks_52_good T X (fa Y) D (clrC D C) (decide (Y < 0)) p T.size ((p + 52 : Nat) : Int) W (by omega) (by omega) (by omega) (by omega) m0 m1 m2 m3 e0 e1 e2 e3 _ KF

theorem msky_n (T z : ByteArray) (p : Nat) (n : Nat) (hn : 56 ≤ n) (hn2 : n ≤ 200) (hle : p + n ≤ T.size) (hbig : T.size ≤ 4611686018427387904) (hz : T.extract p (p + n) = z) (X Y P D C : Int) (fm : Int) (x : St) : MskBad T z p n fm x X Y P D C ∨ MskGoodY T z p n fm x X Y P D C := by
  have hzs : z.size = n := by rw [← hz, ByteArray.size_extract]; omega
  obtain ⟨m0, e0⟩ : ∃ m : Int, ((w4 T (p + 40) : Nat) : Int) = m := ⟨_, rfl⟩
  obtain ⟨m1, e1⟩ : ∃ m : Int, ((w4 T (p + 44) : Nat) : Int) = m := ⟨_, rfl⟩
  obtain ⟨m2, e2⟩ : ∃ m : Int, ((w4 T (p + 48) : Nat) : Int) = m := ⟨_, rfl⟩
  obtain ⟨m3, e3⟩ : ∃ m : Int, ((w4 T (p + 52) : Nat) : Int) = m := ⟨_, rfl⟩
  have f0 : ((w4 z 40 : Nat) : Int) = m0 := by rw [← e0, ← hz, w4_ext T p (p + n) 40 (by omega) (by omega)]
  have f1 : ((w4 z 44 : Nat) : Int) = m1 := by rw [← e1, ← hz, w4_ext T p (p + n) 44 (by omega) (by omega)]
  have f2 : ((w4 z 48 : Nat) : Int) = m2 := by rw [← e2, ← hz, w4_ext T p (p + n) 48 (by omega) (by omega)]
  have f3 : ((w4 z 52 : Nat) : Int) = m3 := by rw [← e3, ← hz, w4_ext T p (p + n) 52 (by omega) (by omega)]
  rcases four_both (fun k => if k = 0 then m0 else if k = 1 then m1 else if k = 2 then m2 else m3) D with ⟨tt, c, ht, hc, KF⟩ | ⟨s, m, ho, hM, KF⟩
  · refine .inl ⟨2, (p : Int) + 40 + 4 * (tt : Int), (p + n), x, by decide, by decide, fun b l f W hT h1 h2 h => ?_, fun W => ?_⟩
    · have R := cmasks_n_bad b l T z p (p + n) f T.size fm (n : Nat) (by omega) X Y P D C x W h hT h1 h2 (by omega) (by omega) tt c ht hc (by omega) m0 m1 m2 m3 f0 f1 f2 f3 KF
      rw [show (p : Int) + (40 + 4 * (tt : Int)) = (p : Int) + 40 + 4 * (tt : Int) from by omega] at R
      exact R
    · exact rmasks_n_bad T (n : Nat) (by omega) X (fa Y) D (clrC D C) (decide (Y < 0)) p T.size ((p + n : Nat) : Int) W (by omega) (by omega) (by omega) (by omega) tt c ht hc m0 m1 m2 m3 e0 e1 e2 e3 KF
  · have g0 : m0 = (maskW (s 0) (m 0) : Nat) := hM 0 (by decide)
    have g1 : m1 = (maskW (s 1) (m 1) : Nat) := hM 1 (by decide)
    have g2 : m2 = (maskW (s 2) (m 2) : Nat) := hM 2 (by decide)
    have g3 : m3 = (maskW (s 3) (m 3) : Nat) := hM 3 (by decide)
    refine .inr ⟨s, m, (p + n), x, ho, by omega, by omega, .inl rfl, by rw [if_neg (by omega)], by rw [← g0, ← g1, ← g2, ← g3]; exact KF, fun h => absurd h (by omega), fun b l f W hT h1 h2 h => ?_, fun W => ?_⟩
    · have R := cmasks_n_good b l T z p (p + n) f T.size fm (n : Nat) (by omega) X Y P D C x W h hT h1 h2 (by omega) (by omega) _ _ _ _ _ _ _ _ m0 m1 m2 m3 f0 f1 f2 f3 KF
      exact R
    · rw [← g0, ← g1, ← g2, ← g3]
      exact rmasks_n_good T (n : Nat) (by omega) X (fa Y) D (clrC D C) (decide (Y < 0)) p T.size ((p + n : Nat) : Int) W (by omega) (by omega) (by omega) (by omega) m0 m1 m2 m3 e0 e1 e2 e3 _ KF

theorem msky_any (T z : ByteArray) (p n : Nat) (hn : n = 40 ∨ n = 52 ∨ n = 56 ∨ n = 108 ∨ n = 124) (hle : p + n ≤ T.size) (hbig : T.size ≤ 4611686018427387904) (hz : T.extract p (p + n) = z) (X Y P D C : Int) (fm : Int) (x : St) (GW1 : GW 1 x) : MskBad T z p n fm x X Y P D C ∨ MskGoodY T z p n fm x X Y P D C := by
  rcases hn with rfl | rfl | h
  · exact msky_40 T z p hle hbig hz X Y P D C fm x GW1
  · exact msky_52 T z p hle hbig hz X Y P D C fm x
  · exact msky_n T z p n (by omega) (by omega) hle hbig hz X Y P D C fm x

end Go.Proofs.YtikjfmpdfeaooaaDoor.Dh

/- Layer 20: a head, by both sides, told more of (written by wip/gen/dhq.py). -/
namespace Go.Proofs.YtikjfmpdfeaooaaDoor.Dh
open Go.ChangeShapes Go.WideShapes Go.ChangeAt Go.RowKit
open Go.Proofs.YtikjfmpdfeaooaaDoor.Le Go.Proofs.YtikjfmpdfeaooaaDoor.Sr Go.Proofs.YtikjfmpdfeaooaaDoor.Ma
set_option linter.unusedVariables false

def GoodY (T : ByteArray) (p : Nat) (fm : Int) (x : St) : Prop := ∃ (S X Y D M C : Int) (tp : Bool) (s n : Nat → Nat) (q : Nat) (y : St),
  GH S X Y D M C ∧ (M = 1 ∨ M = 2 → tp = false) ∧ (∀ k, k < 4 → okP (s k) (n k)) ∧ p + 12 ≤ q ∧ q ≤ T.size ∧ (y = ((x.work 1).1.work 1).1 ∨ y = (((x.work 1).1.work 1).1.work 1).1) ∧
  (S = 40 → q = p + (if M = 3 then 52 else 40)) ∧ MW M D s n ∧ (S = 40 → (0 : Int) = (maskW (s 3) (n 3) : Nat)) ∧
  CRd T p fm x q y (.agg #[.int .i64 S, .int .i64 X, .int .i64 Y, .bool tp, .int .i64 D, .int .i64 M, .int .i64 C, .int .i64 (s 0 : Nat), .int .i64 (n 0 : Nat), .int .i64 (s 1 : Nat), .int .i64 (n 1 : Nat), .int .i64 (s 2 : Nat), .int .i64 (n 2 : Nat), .int .i64 (s 3 : Nat), .int .i64 (n 3 : Nat), .int .i64 (p : Nat)]) (flV 0 0 0) ∧
  DRd T p #[.int .i64 S, .int .i64 X, .int .i64 Y, .bool tp, .int .i64 D, .int .i64 M, .int .i64 C, .int .i64 (maskW (s 0) (n 0) : Nat), .int .i64 (maskW (s 1) (n 1) : Nat), .int .i64 (maskW (s 2) (n 2) : Nat), .int .i64 (maskW (s 3) (n 3) : Nat), .int .i64 (p : Nat), .int .i64 (q : Nat), .int .i64 0, .int .i64 0]

theorem long_bothY (T z : ByteArray) (p n K : Nat) (fm : Int) (x : St) (Gx : GW 3 x) (hbig : T.size ≤ 4611686018427387904) (hn4 : w4 T p = n) (hr : rdH (n : Int) = true) (h12 : n ≠ 12) (hpn : p + n ≤ T.size) (hz : T.extract p (p + n) = z) (F : FstB (ckD (n : Nat) (nW z) (nH z) (nP z) (nD z) (nM z) (nC z)) K) :
    BadR T p fm x ∨ GoodY T p fm x := by
  have hzs : z.size = n := by rw [← hz, ByteArray.size_extract]; omega
  have hn : n = 40 ∨ n = 52 ∨ n = 56 ∨ n = 108 ∨ n = 124 := by have := of_decide_eq_true hr; omega
  have G1 := Gx.step (by decide)
  have G2 := G1.step (by decide)
  have hb := nH_bd z
  have eX : sgn (w4 z 4) = nW z := by unfold nW; rw [if_neg (by omega)]
  have eY : sgn (w4 z 8) = nH z := by unfold nH; rw [if_neg (by omega)]
  have eP : ((w2 z 12 : Nat) : Int) = (nP z : Nat) := by unfold nP; rw [if_neg (by omega)]
  have eD : ((w2 z 14 : Nat) : Int) = (nD z : Nat) := by unfold nD; rw [if_neg (by omega)]
  have eM : ((w4 z 16 : Nat) : Int) = (nM z : Nat) := by unfold nM; rw [if_neg (by omega)]
  have eC : ((w4 z 32 : Nat) : Int) = (nC z : Nat) := by unfold nC; rw [if_neg (by omega)]
  have KH : ∀ (b l f : Nat) (u : World), SL b l T p f T.size x u → Calls Tryd.prog 21 #[.agg #[.pointer (some ⟨b, 0, none⟩), .int .i64 fm, .int .i64 (p : Nat)]] u fun e w' => e = .returned (.tuple #[.string z, flV 0 0 0]) ∧ SL b l T (p + n) f T.size ((x.work 1).1.work 1).1 w' ∧ Tn u w' [b, l] :=
    fun b l f u hu => by rw [← hz]; exact head_yes b l T p f T.size fm x u hu Gx.ok (Gx.rd (by decide) (by decide) (by omega)) n hn4 (rd_ot hr) hr G1.ok (G1.rd (by decide) (by omega) (by omega))
  have KN : ∀ u, Calls Tryd.prog 22 #[.string z] u fun e w' => e = .returned (.agg #[.int .i64 (n : Nat), .int .i64 (nW z), .int .i64 (nH z), .int .i64 (nP z), .int .i64 (nD z), .int .i64 (nM z), .int .i64 (nC z)]) ∧ u.grownBy w' none :=
    fun u => by have N := numbers_calls z (by omega) u; unfold nV at N; rw [hzs] at N; exact N
  have DOC : ∀ (RV MV : Array Value), (RV = if K < 10 then badA (kdD K) ((p : Int) + plD n K) else MV) → MVis MV → (∀ u, Calls Tryd.prog 35 #[.string T, .agg #[.int .i64 (n : Nat), .int .i64 (nW z), .int .i64 (fa (nH z)), .bool (decide (nH z < 0)), .int .i64 (nD z), .int .i64 (nM z), .int .i64 (clrC (nD z) (nC z)), .int .i64 0, .int .i64 0, .int .i64 0, .int .i64 0, .int .i64 (p : Nat), .int .i64 ((p + n : Nat)), .int .i64 0, .int .i64 0], .int .i64 (T.size : Nat)] u fun e w' => e = .returned (.agg MV) ∧ u.grownBy w' none) → DRd T p RV :=
    fun RV MV hR hMV KM W => rlong_any n hn T z p T.size K (nW z) (nH z) (nP z) (nD z) (nM z) (nC z) RV MV W ⟨F, h12, by omega, by omega, by omega, by omega, by omega, hR⟩ hz hpn (Nat.le_refl _) (by omega) hn4 eX eY eP eD eM eC KM hMV
  by_cases hK : K < 10
  · -- something is wrong with the numbers
    refine .inl ⟨kdD K, (p : Int) + plD n K, p + n, ((x.work 1).1.work 1).1, (kd_bd hK).1, (kd_bd hK).2, code_wrong T z p n K fm x Gx hbig hn4 hr hpn hz hK F, ?_⟩
    by_cases h3 : nM z = 3
    · rcases msky_any T z p n hn hpn hbig hz (nW z) (nH z) (nP z) (nD z) (nC z) fm _ G2 with ⟨kk, a0, qq, yy, _, _, _, KD⟩ | ⟨s, m, qq, yy, _, _, _, _, _, _, _, _, KD⟩
      · exact DOC _ _ (by rw [if_pos hK]) ⟨_, _, _, _, _, _, _, _, _, _, _, _, _, _, _, rfl⟩ (fun u => by rw [h3]; exact KD u)
      · exact DOC _ _ (by rw [if_pos hK]) ⟨_, _, _, _, _, _, _, _, _, _, _, _, _, _, _, rfl⟩ (fun u => by rw [h3]; exact KD u)
    · exact DOC _ _ (by rw [if_pos hK]) ⟨_, _, _, _, _, _, _, _, _, _, _, _, _, _, _, rfl⟩ (fun u => rmasks_none T _ _ _ _ _ _ _ p T.size _ u (by omega))
  have hK10 : K = 10 := by have := F.le; omega
  subst hK10
  obtain ⟨GHh, hpk⟩ := good_head hr (by omega) (by omega) F
  have KW : ∀ u, Calls Tryd.prog 23 #[.agg #[.int .i64 (n : Nat), .int .i64 (nW z), .int .i64 (nH z), .int .i64 (nP z), .int .i64 (nD z), .int .i64 (nM z), .int .i64 (nC z)]] u fun e w' => e = .returned (.tuple #[.int .i64 0, .int .i64 0]) ∧ u.grownBy w' none :=
    fun u => wrong_calls _ _ _ _ _ _ _ 10 u (by omega) (by omega) F
  by_cases h3 : nM z = 3
  · rcases msky_any T z p n hn hpn hbig hz (nW z) (nH z) (nP z) (nD z) (nC z) fm _ G2 with ⟨kk, a0, qq, yy, k1, k3, KC, KD⟩ | ⟨s, m, qq, yy, ho, q1, q2, hy, hqq, KF, h0A, KC, KD⟩
    · refine .inl ⟨kk, a0, qq, yy, k1, k3, fun b l f W h hT h1 h2 => ?_, DOC (badA kk a0) (badA kk a0) (by rw [if_neg hK]) ⟨_, _, _, _, _, _, _, _, _, _, _, _, _, _, _, rfl⟩ (fun u => by rw [h3]; exact KD u)⟩
      exact read_nomasks b l T p f T.size fm x W h z (n : Nat) (nW z) (nH z) (nP z) (nD z) (nM z) (nC z) kk a0 (by omega) (p + n) qq ((x.work 1).1.work 1).1 yy (fun u hu => KH b l f u hu) KN KW
        (fun u hu ht => by rw [h3]; exact KC b l f u (Tab.tn hT ht (by simp [h1, h2])) h1 h2 hu)
    · refine .inr ⟨(n : Nat), nW z, fa (nH z), nD z, nM z, clrC (nD z) (nC z), decide (nH z < 0), s, m, qq, yy, GHh, hpk, ho, q1, q2, hy, fun h40 => by rw [hqq, h3, if_pos (by omega)]; rfl, ⟨fun _ => KF, fun h => absurd (by rw [h3]; rfl) h⟩, fun h40 => h0A (by omega), fun b l f W h hT h1 h2 => ?_, DOC _ _ (by rw [if_neg hK]) ⟨_, _, _, _, _, _, _, _, _, _, _, _, _, _, _, rfl⟩ (fun u => by rw [h3]; exact KD u)⟩
      exact read_good b l T p f T.size fm x W h z (n : Nat) (nW z) (nH z) (nP z) (nD z) (nM z) (nC z) _ _ _ _ _ _ _ _ (by omega) (p + n) qq ((x.work 1).1.work 1).1 yy (fun u hu => KH b l f u hu) KN KW
        (fun u hu ht => by rw [h3]; exact KC b l f u (Tab.tn hT ht (by simp [h1, h2])) h1 h2 hu)
  · obtain ⟨s, m, ho, c0, c1, c2, c3, c4, c5, c6, c7, w0, w1, w2, w3⟩ := common_places (nD z)
    refine .inr ⟨(n : Nat), nW z, fa (nH z), nD z, nM z, clrC (nD z) (nC z), decide (nH z < 0), s, m, p + n, ((x.work 1).1.work 1).1, GHh, hpk, ho, by omega, by omega, .inl rfl, fun h40 => by rw [if_neg (by omega)]; omega, ⟨fun h => absurd h (by omega), fun _ => ⟨c0, c1, c2, c3, c4, c5, c6, c7, w0, w1, w2, w3⟩⟩, fun _ => w3, fun b l f W h hT h1 h2 => ?_, ?_⟩
    · have R := read_plain b l T p f T.size fm x W h Gx.ok (Gx.rd (by decide) (by decide) (by omega)) n hn4 hr G1.ok (G1.rd (by decide) (by omega) (by omega)) z hz h3 (by rw [hzs]; exact F)
      unfold headV at R
      rw [hzs, c0, c1, c2, c3, c4, c5, c6, c7] at R
      exact R
    · refine DOC _ _ (by rw [if_neg hK]) ⟨_, _, _, _, _, _, _, _, _, _, _, _, _, _, _, rfl⟩ (fun u => ?_)
      rw [← w0, ← w1, ← w2, ← w3]
      exact rmasks_none T _ _ _ _ _ _ _ p T.size _ u (by omega)

theorem short_bothY (T z : ByteArray) (p K : Nat) (fm : Int) (x : St) (Gx : GW 3 x) (hbig : T.size ≤ 4611686018427387904) (hn4 : w4 T p = 12) (hpn : p + 12 ≤ T.size) (hz : T.extract p (p + 12) = z) (F : FstB (ckD (12 : Nat) (nW z) (nH z) (nP z) (nD z) (nM z) (nC z)) K) :
    BadR T p fm x ∨ GoodY T p fm x := by
  have hzs : z.size = 12 := by rw [← hz, ByteArray.size_extract]; omega
  have G1 := Gx.step (by decide)
  have hr : rdH ((12 : Nat) : Int) = true := by decide
  have eX : ((w2 z 4 : Nat) : Int) = nW z := by unfold nW; rw [if_pos hzs]
  have eY : ((w2 z 6 : Nat) : Int) = nH z := by unfold nH; rw [if_pos hzs]
  have eP : ((w2 z 8 : Nat) : Int) = (nP z : Nat) := by unfold nP; rw [if_pos hzs]
  have eD : ((w2 z 10 : Nat) : Int) = (nD z : Nat) := by unfold nD; rw [if_pos hzs]
  have eM : nM z = 0 := by unfold nM; rw [if_pos hzs]
  have eC : nC z = 0 := by unfold nC; rw [if_pos hzs]
  have hY : 0 ≤ nH z := by rw [← eY]; omega
  have F0 := F
  rw [eM, eC] at F0
  have SH := shV_is p (nW z) (nH z) (nP z) (nD z) K hY F0
  have DOC : DRd T p (shV p (nW z) (nH z) (nP z) (nD z)) := fun W => rread_twelve T p T.size W (Nat.le_refl _) (by omega) (by omega) hpn hn4 z hz (nW z) (nH z) (nP z) (nD z) (by omega) eX eY eP eD
  rw [SH] at DOC
  by_cases hK : K < 10
  · rw [if_pos hK] at DOC
    exact .inl ⟨kdD K, (p : Int) + plD 12 K, p + 12, ((x.work 1).1.work 1).1, (kd_bd hK).1, (kd_bd hK).2, code_wrong T z p 12 K fm x Gx hbig hn4 hr hpn hz hK F, DOC⟩
  have hK10 : K = 10 := by have := F.le; omega
  subst hK10
  rw [if_neg hK] at DOC
  obtain ⟨GHh, hpk⟩ := good_head hr (by omega) (by omega) F
  have hfa : fa (nH z) = nH z := if_pos hY
  have hneg : decide (nH z < 0) = false := decide_eq_false (by omega)
  have hD : (nD z : Int) ≠ 16 ∧ (nD z : Int) ≠ 32 := by
    have h5 : dpH (nD z) ((12 : Nat) : Int) = true := by
      have := F.no 5 (by omega)
      simpa [ckD] using this
    have h5 := of_decide_eq_true h5
    omega
  have e2 : ∀ k, cwV (nD z) k = 0 := fun k => by unfold cwV; rw [if_neg hD.1, if_neg hD.2]
  have e : ∀ k, cmV (nD z) k = 0 := fun k => by unfold cmV; rw [if_neg hD.1, if_neg hD.2]
  refine .inr ⟨((12 : Nat) : Int), nW z, fa (nH z), nD z, nM z, clrC (nD z) (nC z), decide (nH z < 0), fun _ => 0, fun _ => 0, p + 12, ((x.work 1).1.work 1).1, GHh, hpk, fun _ _ => .inl ⟨rfl, rfl⟩, by omega, by omega, .inl rfl, fun h40 => absurd h40 (by decide), ⟨fun h => absurd h (by omega), fun _ => ⟨e 0, e 1, e 2, e 3, e 4, e 5, e 6, e 7, e2 0, e2 1, e2 2, rfl⟩⟩, fun _ => rfl, fun b l f W h hT h1 h2 => ?_, ?_⟩
  · have R := read_plain b l T p f T.size fm x W h Gx.ok (Gx.rd (by decide) (by decide) (by omega)) 12 hn4 hr G1.ok (G1.rd (by decide) (by decide) (by omega)) z hz (by omega) (by rw [hzs]; exact F)
    unfold headV at R
    rw [hzs] at R
    simp only [e] at R
    exact R
  · rw [hfa, hneg, eM, eC]
    exact DOC

/-- Any bytes from a place on are a head, or none, by the code as by the document; told more of. -/
theorem read_bothY (T : ByteArray) (p : Nat) (fm : Int) (x : St) (Gx : GW 3 x) (hp : p ≤ T.size) (hbig : T.size ≤ 4611686018427387904) : BadR T p fm x ∨ GoodY T p fm x := by
  have hsm : T.size ≤ 9223372036854775807 := by omega
  have G1 := Gx.step (by decide)
  have G2 := G1.step (by decide)
  by_cases h4 : T.size < p + 4
  · refine .inl ⟨1, T.size, p, (x.work 1).1, by decide, by decide, fun b l f W h hT h1 h2 => ?_, fun W => rread_less4 T p T.size W (Nat.le_refl _) hsm hp h4⟩
    exact read_nohead b l T p f T.size fm x W h 1 T.size (by decide) p _ (fun u hu => head_no1 b l T p f T.size fm x u hu Gx.ok (Gx.no (by decide) (by omega)) 1 T.size (by rw [if_pos G1.r]; rfl))
  obtain ⟨n, hn4⟩ : ∃ n, w4 T p = n := ⟨_, rfl⟩
  have rd4 : rdB x p T.size 4 = true := Gx.rd (by decide) (by decide) (by omega)
  cases ho : otH (n : Int) with
  | true =>
    refine .inl ⟨3, p, p + 4, (x.work 1).1, by decide, by decide, fun b l f W h hT h1 h2 => ?_, ?_⟩
    · exact read_nohead b l T p f T.size fm x W h 3 p (by decide) (p + 4) _ (fun u hu => head_other b l T p f T.size fm x u hu Gx.ok rd4 n hn4 ho)
    · have := of_decide_eq_true ho
      rcases (by omega : n = 16 ∨ n = 64) with rfl | rfl
      · exact fun W => rread_is16 T p T.size W (Nat.le_refl _) hsm hp (by omega) hn4
      · exact fun W => rread_is64 T p T.size W (Nat.le_refl _) hsm hp (by omega) hn4
  | false =>
    cases hr : rdH (n : Int) with
    | false =>
      refine .inl ⟨2, p, p + 4, (x.work 1).1, by decide, by decide, fun b l f W h hT h1 h2 => ?_, ?_⟩
      · exact read_nohead b l T p f T.size fm x W h 2 p (by decide) (p + 4) _ (fun u hu => head_bad b l T p f T.size fm x u hu Gx.ok rd4 n hn4 ho hr)
      · have a := of_decide_eq_false ho
        have c := of_decide_eq_false hr
        exact fun W => rread_unknown T p T.size W (Nat.le_refl _) hsm hp (by omega) n hn4 (by omega) (by omega) (by omega) (by omega) (by omega) (by omega) (by omega) (by omega)
    | true =>
      have hc := of_decide_eq_true hr
      have hc : n = 12 ∨ n = 40 ∨ n = 52 ∨ n = 56 ∨ n = 108 ∨ n = 124 := by omega
      by_cases hov : T.size < p + n
      · refine .inl ⟨1, T.size, p + 4, ((x.work 1).1.work 1).1, by decide, by decide, fun b l f W h hT h1 h2 => ?_, ?_⟩
        · exact read_nohead b l T p f T.size fm x W h 1 T.size (by decide) (p + 4) _ (fun u hu => head_no2 b l T p f T.size fm x u hu Gx.ok rd4 n hn4 ho hr G1.ok (G1.no (by decide) (by omega)) 1 T.size (by rw [if_pos G2.r]; rfl))
        · rcases hc with rfl | rfl | rfl | rfl | rfl | rfl
          · exact fun W => rread_over12 T p T.size W (Nat.le_refl _) hsm hp (by omega) hn4 hov
          · exact fun W => rread_over40 T p T.size W (Nat.le_refl _) hsm hp (by omega) hn4 hov
          · exact fun W => rread_over52 T p T.size W (Nat.le_refl _) hsm hp (by omega) hn4 hov
          · exact fun W => rread_over56 T p T.size W (Nat.le_refl _) hsm hp (by omega) hn4 hov
          · exact fun W => rread_over108 T p T.size W (Nat.le_refl _) hsm hp (by omega) hn4 hov
          · exact fun W => rread_over124 T p T.size W (Nat.le_refl _) hsm hp (by omega) hn4 hov
      obtain ⟨z, hz⟩ : ∃ z, T.extract p (p + n) = z := ⟨_, rfl⟩
      obtain ⟨K, F⟩ := fst_ex (ckD (n : Nat) (nW z) (nH z) (nP z) (nD z) (nM z) (nC z))
      by_cases h12 : n = 12
      · subst h12
        exact short_bothY T z p K fm x Gx hbig hn4 (by omega) hz F
      · exact long_bothY T z p n K fm x Gx hbig hn4 hr h12 (by omega) hz F

end Go.Proofs.YtikjfmpdfeaooaaDoor.Dh

/- Layer 20: the law DibheadBack, of all texts. -/
namespace Go.Proofs.YtikjfmpdfeaooaaDoor.Dh
open Go.ChangeShapes Go.WideShapes Go.ChangeAt Go.RowKit
open Go.Proofs.YtikjfmpdfeaooaaDoor.Le Go.Proofs.YtikjfmpdfeaooaaDoor.Sr Go.Proofs.YtikjfmpdfeaooaaDoor.Ma
set_option linter.unusedVariables false

theorem mask_lt (s n : Nat) (h : okP s n) : maskW s n < 4294967296 := okP_lt h
/-- The bytes of a head that was read. -/
theorem back_bytes {X Y D M C : Int} {tp : Bool} (g : GH 40 X Y D M C) (hpk : M = 1 ∨ M = 2 → tp = false) (s n : Nat → Nat) (ho : ∀ k, k < 4 → okP (s k) (n k)) (MWh : MW M D s n) (h0A : (0 : Int) = (maskW (s 3) (n 3) : Nat)) :
    ∃ B : ByteArray, B.size ≤ 52 ∧ (∀ u, Calls Tryd.prog 40 #[.agg #[.int .i64 40, .int .i64 X, .int .i64 Y, .bool tp, .int .i64 D, .int .i64 M, .int .i64 C, .int .i64 (s 0 : Nat), .int .i64 (n 0 : Nat), .int .i64 (s 1 : Nat), .int .i64 (n 1 : Nat), .int .i64 (s 2 : Nat), .int .i64 (n 2 : Nat), .int .i64 (s 3 : Nat), .int .i64 (n 3 : Nat), .int .i64 ((0 : Nat) : Int)]] u fun e w' => e = .returned (.string B) ∧ u.grownBy w' none) ∧
      ∃ y, CRd B 0 0 (LW 3 0) B.size y (.agg #[.int .i64 40, .int .i64 X, .int .i64 Y, .bool tp, .int .i64 D, .int .i64 M, .int .i64 C, .int .i64 (s 0 : Nat), .int .i64 (n 0 : Nat), .int .i64 (s 1 : Nat), .int .i64 (n 1 : Nat), .int .i64 (s 2 : Nat), .int .i64 (n 2 : Nat), .int .i64 (s 3 : Nat), .int .i64 (n 3 : Nat), .int .i64 ((0 : Nat) : Int)]) (flV 0 0 0) ∧
        DRd B 0 #[.int .i64 40, .int .i64 X, .int .i64 Y, .bool tp, .int .i64 D, .int .i64 M, .int .i64 C, .int .i64 (maskW (s 0) (n 0) : Nat), .int .i64 (maskW (s 1) (n 1) : Nat), .int .i64 (maskW (s 2) (n 2) : Nat), .int .i64 (maskW (s 3) (n 3) : Nat), .int .i64 ((0 : Nat) : Int), .int .i64 (B.size : Nat), .int .i64 0, .int .i64 0] := by
  have b0 := mask_lt _ _ (ho 0 (by decide))
  have b1 := mask_lt _ _ (ho 1 (by decide))
  have b2 := mask_lt _ _ (ho 2 (by decide))
  by_cases hM : M = 3
  · subst hM
    have hs : (tx (txC 40 X Y tp D C (maskW (s 0) (n 0) : Nat) (maskW (s 1) (n 1) : Nat) (maskW (s 2) (n 2) : Nat))).size = 52 := by
      show (txC 40 X Y tp D C (maskW (s 0) (n 0) : Nat) (maskW (s 1) (n 1) : Nat) (maskW (s 2) (n 2) : Nat)).toArray.size = 52
      rw [List.size_toArray, txC_len]
    obtain ⟨f4, f2, g0, g1, g2⟩ := txC_nums 40 X Y tp D C (maskW (s 0) (n 0)) (maskW (s 1) (n 1)) (maskW (s 2) (n 2)) b0 b1 b2
    obtain ⟨e0, e4, e8, e12, e14, e16, e32⟩ := txB_nums 52 40 X Y tp D 3 C (by decide)
    refine ⟨tx (txC 40 X Y tp D C (maskW (s 0) (n 0) : Nat) (maskW (s 1) (n 1) : Nat) (maskW (s 2) (n 2) : Nat)), by rw [hs]; decide, fun u => text_masked 40 X Y D C ((0 : Nat) : Int) tp _ _ _ _ _ _ _ _ u _ _ _ (fun v => word_mask _ _ (ho 0 (by decide)) v) (fun v => word_mask _ _ (ho 1 (by decide)) v) (fun v => word_mask _ _ (ho 2 (by decide)) v), ?_⟩
    exact back_read _ (by rw [hs]; decide) g hpk s n MWh (by rw [f4 0 (by decide)]; exact e0) (by rw [f4 4 (by decide)]; exact e4) (by rw [f4 8 (by decide)]; exact e8) (by rw [f2 12 (by decide)]; exact e12) (by rw [f2 14 (by decide)]; exact e14) (by rw [f4 16 (by decide)]; exact e16) (by rw [f4 32 (by decide)]; exact e32) (by rw [hs]; rfl) (fun _ => ⟨by rw [g0], by rw [g1], by rw [g2], h0A⟩)
  · have hs : (tx (txB 40 40 X Y tp D M C)).size = 40 := by
      show (txB 40 40 X Y tp D M C).toArray.size = 40
      rw [List.size_toArray, txB_len]
    obtain ⟨e0, e4, e8, e12, e14, e16, e32⟩ := txB_nums 40 40 X Y tp D M C (by decide)
    refine ⟨tx (txB 40 40 X Y tp D M C), by rw [hs]; decide, fun u => text_plain 40 X Y D M C ((0 : Nat) : Int) tp _ _ _ _ _ _ _ _ u hM, ?_⟩
    exact back_read _ (by rw [hs]; decide) g hpk s n MWh e0 e4 e8 e12 e14 e16 e32 (by rw [hs, if_neg hM]) (fun h => absurd h hM)

theorem back_any (T : ByteArray) (W : World) (hsm : T.size ≤ 9223372036854775807) (hlt : 0 < W.heap.size) (hTab : Tab W) :
    Calls Tryd.prog 5 #[.string T] W fun e w' => e = .returned (.bool true) ∧ W.grownBy w' none := by
  by_cases hl : 300 < T.size
  · obtain ⟨rv, ⟨z0, z1, z2, z3, z4, z5, z6, z7, z8, z9, z10, z11, z12, z13, z14, rfl⟩, KD⟩ := doc_any T hsm hl
    exact lawk_far T z0 z1 z2 z3 z4 z5 z6 z7 z8 z9 z10 z11 z12 z13 z14 W (decide_eq_true (by omega)) (fun u => KD u)
  have t0 : decide ((300 : Int) < (T.size : Nat)) = false := decide_eq_false (by omega)
  rcases read_bothY T 0 1 (LW 1000 0) (GW.lw (by decide) (by decide) (by decide) (by decide)) (by omega) (by omega) with ⟨kk, a0, q, y, k1, k3, KC, KD⟩ | ⟨S, X, Y, D, M, C, tp, s, n, q, y, GHh, hpk, ho, q1, q2, hy, hq40, MWh, h0A, KC, KD⟩
  · exact lawk_bad T 0 0 0 false 0 0 0 0 0 0 0 0 0 kk a0 W t0 (by rw [bne_iff_ne]; omega) (fun u => KD u)
  · by_cases hS : S = 40
    · subst hS
      obtain ⟨B, hB, KX, yB, KCB, KDB⟩ := back_bytes GHh hpk s n ho MWh (h0A rfl)
      exact lawk_good T (by omega) X Y tp D M C (s 0 : Nat) (n 0 : Nat) (s 1 : Nat) (n 1 : Nat) (s 2 : Nat) (n 2 : Nat) (s 3 : Nat) (n 3 : Nat) (maskW (s 0) (n 0) : Nat) (maskW (s 1) (n 1) : Nat) (maskW (s 2) (n 2) : Nat) (maskW (s 3) (n 3) : Nat) (B.size : Nat) (q : Nat) q y B rfl W hlt hTab (fun u => KD u) KC
        (fun u g => bytes_good B X Y tp D M C (s 0 : Nat) (n 0 : Nat) (s 1 : Nat) (n 1 : Nat) (s 2 : Nat) (n 2 : Nat) (s 3 : Nat) (n 3 : Nat) ((0 : Nat) : Int) u KX (fun u2 g2 => told_vals B (by omega) 40 X Y tp D M C (s 0 : Nat) (n 0 : Nat) (s 1 : Nat) (n 1 : Nat) (s 2 : Nat) (n 2 : Nat) (s 3 : Nat) (n 3 : Nat) ((0 : Nat) : Int) 0 0 true rfl B.size yB u2 (Nat.lt_of_lt_of_le hlt (gb_trans g g2).size) (hTab.grown hlt (gb_trans g g2)) KCB))
        (fun u => KDB u) (fun u => same_calls 40 X Y D M C 0 (B.size : Nat) tp s n ho u)
    · exact lawk_size T S X Y tp D M C _ _ _ _ _ _ 0 0 W t0 rfl (by rw [bne_iff_ne]; exact hS) (fun u => KD u)

end Go.Proofs.YtikjfmpdfeaooaaDoor.Dh
