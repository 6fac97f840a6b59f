/- Texts of one kind, one behind the other: DhP1, DhP2, Db1, Db2. -/
import Derived.Deep.LoopGhost
import Derived.Deep.RegionHeld3
import Derived.Test.YtikjfmpdfeaooaaDoorG22
import Derived.Test.YtikjfmpdfeaooaaDoorG28
import Derived.Test.YtikjfmpdfeaooaaDoorG29
import Derived.Test.YtikjfmpdfeaooaaDoorG31
/- Layer 20: masks that are told, by both sides, told more of (written by wip/gen/dhp.py). -/
namespace Go.Proofs.YtikjfmpdfeaooaaDoor.Dh
open Go.ChangeShapes Go.WideShapes Go.ChangeAt Go.RowKit
open Go.Proofs.YtikjfmpdfeaooaaDoor.Le Go.Proofs.YtikjfmpdfeaooaaDoor.Sr Go.Proofs.YtikjfmpdfeaooaaDoor.Ma
set_option linter.unusedVariables false

/-- Masks that are told and good, for both: where they end, and what the four are. -/
def MskGoodX (T z : ByteArray) (p n : Nat) (fm : Int) (x : St) (X Y P D C : Int) : Prop := ∃ (s m : Nat → Nat) (qq : Nat) (yy : St), (∀ k, k < 4 → okP (s k) (m k)) ∧ p + 12 ≤ qq ∧ qq ≤ T.size ∧ (yy = x ∨ yy = (x.work 1).1) ∧ qq = p + (if n = 40 then 52 else n) ∧ FourIs (fun k => if k = 0 then ((maskW (s 0) (m 0) : Nat) : Int) else if k = 1 then ((maskW (s 1) (m 1) : Nat) : Int) else if k = 2 then ((maskW (s 2) (m 2) : Nat) : Int) else ((maskW (s 3) (m 3) : Nat) : Int)) D #[.int .i64 (s 0 : Nat), .int .i64 (m 0 : Nat), .int .i64 (s 1 : Nat), .int .i64 (m 1 : Nat), .int .i64 (s 2 : Nat), .int .i64 (m 2 : Nat), .int .i64 (s 3 : Nat), .int .i64 (m 3 : Nat)] 0 0 ∧ (∀ (b l f : Nat) (W : World), Tab W → 0 ≠ b → 0 ≠ l → SL b l T (p + n) f T.size x W → Calls Tryd.prog 25 #[.agg #[.pointer (some ⟨b, 0, none⟩), .int .i64 fm, .int .i64 (p : Nat)], .string z, .agg #[.int .i64 (n : Nat), .int .i64 X, .int .i64 Y, .int .i64 P, .int .i64 D, .int .i64 3, .int .i64 C]] W fun e w' => e = .returned (.tuple #[.agg #[.int .i64 (s 0 : Nat), .int .i64 (m 0 : Nat), .int .i64 (s 1 : Nat), .int .i64 (m 1 : Nat), .int .i64 (s 2 : Nat), .int .i64 (m 2 : Nat), .int .i64 (s 3 : Nat), .int .i64 (m 3 : Nat)], flV 0 0 0]) ∧ SL b l T qq f T.size yy w' ∧ Tn W w' [b, l]) ∧ (∀ W : World, Calls Tryd.prog 35 #[.string T, .agg #[.int .i64 (n : Nat), .int .i64 X, .int .i64 (fa Y), .bool (decide (Y < 0)), .int .i64 D, .int .i64 3, .int .i64 (clrC D C), .int .i64 0, .int .i64 0, .int .i64 0, .int .i64 0, .int .i64 (p : Nat), .int .i64 ((p + n : Nat)), .int .i64 0, .int .i64 0], .int .i64 (T.size : Nat)] W fun e w' => e = .returned (.agg #[.int .i64 (n : Nat), .int .i64 X, .int .i64 (fa Y), .bool (decide (Y < 0)), .int .i64 D, .int .i64 3, .int .i64 (clrC D C), .int .i64 (maskW (s 0) (m 0) : Nat), .int .i64 (maskW (s 1) (m 1) : Nat), .int .i64 (maskW (s 2) (m 2) : Nat), .int .i64 (maskW (s 3) (m 3) : Nat), .int .i64 (p : Nat), .int .i64 (qq : Nat), .int .i64 0, .int .i64 0]) ∧ W.grownBy w' none)

theorem mskx_40 (T z : ByteArray) (p : Nat) (hle : p + 40 ≤ T.size) (hbig : T.size ≤ 4611686018427387904) (hz : T.extract p (p + 40) = z) (X Y P D C : Int) (fm : Int) (x : St) (GW1 : GW 1 x) : MskBad T z p 40 fm x X Y P D C ∨ MskGoodX T z p 40 fm x X Y P D C := by
  have hzs : z.size = 40 := by rw [← hz, ByteArray.size_extract]; omega
  by_cases hsh : T.size < p + 52
  · refine .inl ⟨1, T.size, p + 40, (x.work 1).1, by decide, by decide, fun b l f W hT h1 h2 h => ?_, fun W => ?_⟩
    · exact cmasks_40_short b l T z p (p + 40) f T.size fm X Y P D C x W h GW1.ok (GW1.no (by decide) (by omega)) 1 T.size (by rw [if_pos (GW1.step (by decide)).r]; rfl)
    · exact rmasks_40_short T X (fa Y) D (clrC D C) (decide (Y < 0)) p T.size ((p + 40 : Nat) : Int) W (by omega) (by omega)
  obtain ⟨zb, hzb⟩ : ∃ zb, T.extract (p + 40) (p + 40 + 12) = zb := ⟨_, rfl⟩
  have hcat : z ++ zb = T.extract p (p + 52) := by
    rw [← hz, ← hzb]
    apply ByteArray.ext
    apply Array.toList_inj.1
    have e1 : (T.extract p (p + 52)).data.toList = (T.data.toList.drop p).take 52 := by rw [Lib.extract_data, Nat.add_sub_cancel_left]
    have e2 : (T.extract p (p + 40)).data.toList = (T.data.toList.drop p).take 40 := by rw [Lib.extract_data, Nat.add_sub_cancel_left]
    have e3 : (T.extract (p + 40) (p + 40 + 12)).data.toList = ((T.data.toList.drop p).drop 40).take 12 := by rw [Lib.extract_data, List.drop_drop, Nat.add_sub_cancel_left]
    rw [ByteArray.data_append, Array.toList_append, e1, e2, e3, ← List.take_add]
  have rd : rdB x (p + 40) T.size 12 = true := GW1.rd (by decide) (by decide) (by omega)
  obtain ⟨m0, e0⟩ : ∃ m : Int, ((w4 T (p + 40) : Nat) : Int) = m := ⟨_, rfl⟩
  obtain ⟨m1, e1⟩ : ∃ m : Int, ((w4 T (p + 44) : Nat) : Int) = m := ⟨_, rfl⟩
  obtain ⟨m2, e2⟩ : ∃ m : Int, ((w4 T (p + 48) : Nat) : Int) = m := ⟨_, rfl⟩
  obtain ⟨m3, e3⟩ : ∃ m : Int, (0 : Int) = m := ⟨_, rfl⟩
  have f0 : ((w4 (z ++ zb) 40 : Nat) : Int) = m0 := by rw [← e0, hcat, w4_ext T p (p + 52) 40 (by omega) (by omega)]
  have f1 : ((w4 (z ++ zb) 44 : Nat) : Int) = m1 := by rw [← e1, hcat, w4_ext T p (p + 52) 44 (by omega) (by omega)]
  have f2 : ((w4 (z ++ zb) 48 : Nat) : Int) = m2 := by rw [← e2, hcat, w4_ext T p (p + 52) 48 (by omega) (by omega)]
  rcases four_both (fun k => if k = 0 then m0 else if k = 1 then m1 else if k = 2 then m2 else m3) D with ⟨tt, c, ht, hc, KF⟩ | ⟨s, m, ho, hM, KF⟩
  · refine .inl ⟨2, (p : Int) + 40 + 4 * (tt : Int), (p + 52), (x.work 1).1, by decide, by decide, fun b l f W hT h1 h2 h => ?_, fun W => ?_⟩
    · have R := cmasks_40_bad b l T z p (p + 40) f T.size fm X Y P D C x W h hT h1 h2 GW1.ok rd hzs zb hzb tt c ht hc (by omega) m0 m1 m2 m3 f0 f1 f2 e3 KF
      rw [show (p : Int) + (40 + 4 * (tt : Int)) = (p : Int) + 40 + 4 * (tt : Int) from by omega] at R
      rw [show p + 40 + 12 = p + 52 from rfl] at R
      exact R
    · exact rmasks_40_bad T X (fa Y) D (clrC D C) (decide (Y < 0)) p T.size ((p + 40 : Nat) : Int) W (by omega) (by omega) trivial (by omega) tt c ht hc m0 m1 m2 m3 e0 e1 e2 e3 KF
  · have g0 : m0 = (maskW (s 0) (m 0) : Nat) := hM 0 (by decide)
    have g1 : m1 = (maskW (s 1) (m 1) : Nat) := hM 1 (by decide)
    have g2 : m2 = (maskW (s 2) (m 2) : Nat) := hM 2 (by decide)
    have g3 : m3 = (maskW (s 3) (m 3) : Nat) := hM 3 (by decide)
    refine .inr ⟨s, m, (p + 52), (x.work 1).1, ho, by omega, by omega, .inr rfl, rfl, by rw [← g0, ← g1, ← g2, ← g3]; exact KF, fun b l f W hT h1 h2 h => ?_, fun W => ?_⟩
    · have R := cmasks_40_good b l T z p (p + 40) f T.size fm X Y P D C x W h hT h1 h2 GW1.ok rd hzs zb hzb _ _ _ _ _ _ _ _ m0 m1 m2 m3 f0 f1 f2 e3 KF
      rw [show p + 40 + 12 = p + 52 from rfl] at R
      exact R
    · rw [← g0, ← g1, ← g2, ← g3]
      exact rmasks_40_good T X (fa Y) D (clrC D C) (decide (Y < 0)) p T.size ((p + 40 : Nat) : Int) W (by omega) (by omega) trivial (by omega) m0 m1 m2 m3 e0 e1 e2 e3 _ KF

theorem mskx_52 (T z : ByteArray) (p : Nat) (hle : p + 52 ≤ T.size) (hbig : T.size ≤ 4611686018427387904) (hz : T.extract p (p + 52) = z) (X Y P D C : Int) (fm : Int) (x : St) : MskBad T z p 52 fm x X Y P D C ∨ MskGoodX T z p 52 fm x X Y P D C := by
  have hzs : z.size = 52 := by rw [← hz, ByteArray.size_extract]; omega
  obtain ⟨m0, e0⟩ : ∃ m : Int, ((w4 T (p + 40) : Nat) : Int) = m := ⟨_, rfl⟩
  obtain ⟨m1, e1⟩ : ∃ m : Int, ((w4 T (p + 44) : Nat) : Int) = m := ⟨_, rfl⟩
  obtain ⟨m2, e2⟩ : ∃ m : Int, ((w4 T (p + 48) : Nat) : Int) = m := ⟨_, rfl⟩
  obtain ⟨m3, e3⟩ : ∃ m : Int, (0 : Int) = m := ⟨_, rfl⟩
  have f0 : ((w4 z 40 : Nat) : Int) = m0 := by rw [← e0, ← hz, w4_ext T p (p + 52) 40 (by omega) (by omega)]
  have f1 : ((w4 z 44 : Nat) : Int) = m1 := by rw [← e1, ← hz, w4_ext T p (p + 52) 44 (by omega) (by omega)]
  have f2 : ((w4 z 48 : Nat) : Int) = m2 := by rw [← e2, ← hz, w4_ext T p (p + 52) 48 (by omega) (by omega)]
  rcases four_both (fun k => if k = 0 then m0 else if k = 1 then m1 else if k = 2 then m2 else m3) D with ⟨tt, c, ht, hc, KF⟩ | ⟨s, m, ho, hM, KF⟩
  · refine .inl ⟨2, (p : Int) + 40 + 4 * (tt : Int), (p + 52), x, by decide, by decide, fun b l f W hT h1 h2 h => ?_, fun W => ?_⟩
    · have R := cmasks_52_bad b l T z p (p + 52) f T.size fm X Y P D C x W h hT h1 h2 hzs tt c ht hc (by omega) m0 m1 m2 m3 f0 f1 f2 e3 KF
      rw [show (p : Int) + (40 + 4 * (tt : Int)) = (p : Int) + 40 + 4 * (tt : Int) from by omega] at R
      exact R
    · exact rmasks_52_bad T X (fa Y) D (clrC D C) (decide (Y < 0)) p T.size ((p + 52 : Nat) : Int) W (by omega) (by omega) (by omega) (by omega) tt c ht hc m0 m1 m2 m3 e0 e1 e2 e3 KF
  · have g0 : m0 = (maskW (s 0) (m 0) : Nat) := hM 0 (by decide)
    have g1 : m1 = (maskW (s 1) (m 1) : Nat) := hM 1 (by decide)
    have g2 : m2 = (maskW (s 2) (m 2) : Nat) := hM 2 (by decide)
    have g3 : m3 = (maskW (s 3) (m 3) : Nat) := hM 3 (by decide)
    refine .inr ⟨s, m, (p + 52), x, ho, by omega, by omega, .inl rfl, rfl, by rw [← g0, ← g1, ← g2, ← g3]; exact KF, fun b l f W hT h1 h2 h => ?_, fun W => ?_⟩
    · have R := cmasks_52_good b l T z p (p + 52) f T.size fm X Y P D C x W h hT h1 h2 hzs _ _ _ _ _ _ _ _ m0 m1 m2 m3 f0 f1 f2 e3 KF
      exact R
    · rw [← g0, ← g1, ← g2, ← g3]
      exact rmasks_52_good T X (fa Y) D (clrC D C) (decide (Y < 0)) p T.size ((p + 52 : Nat) : Int) W (by omega) (by omega) (by omega) (by omega) m0 m1 m2 m3 e0 e1 e2 e3 _ KF

theorem mskx_n (T z : ByteArray) (p : Nat) (n : Nat) (hn : 56 ≤ n) (hn2 : n ≤ 200) (hle : p + n ≤ T.size) (hbig : T.size ≤ 4611686018427387904) (hz : T.extract p (p + n) = z) (X Y P D C : Int) (fm : Int) (x : St) : MskBad T z p n fm x X Y P D C ∨ MskGoodX T z p n fm x X Y P D C := by
  have hzs : z.size = n := by rw [← hz, ByteArray.size_extract]; omega
  obtain ⟨m0, e0⟩ : ∃ m : Int, ((w4 T (p + 40) : Nat) : Int) = m := ⟨_, rfl⟩
  obtain ⟨m1, e1⟩ : ∃ m : Int, ((w4 T (p + 44) : Nat) : Int) = m := ⟨_, rfl⟩
  obtain ⟨m2, e2⟩ : ∃ m : Int, ((w4 T (p + 48) : Nat) : Int) = m := ⟨_, rfl⟩
  obtain ⟨m3, e3⟩ : ∃ m : Int, ((w4 T (p + 52) : Nat) : Int) = m := ⟨_, rfl⟩
  have f0 : ((w4 z 40 : Nat) : Int) = m0 := by rw [← e0, ← hz, w4_ext T p (p + n) 40 (by omega) (by omega)]
  have f1 : ((w4 z 44 : Nat) : Int) = m1 := by rw [← e1, ← hz, w4_ext T p (p + n) 44 (by omega) (by omega)]
  have f2 : ((w4 z 48 : Nat) : Int) = m2 := by rw [← e2, ← hz, w4_ext T p (p + n) 48 (by omega) (by omega)]
  have f3 : ((w4 z 52 : Nat) : Int) = m3 := by rw [← e3, ← hz, w4_ext T p (p + n) 52 (by omega) (by omega)]
  rcases four_both (fun k => if k = 0 then m0 else if k = 1 then m1 else if k = 2 then m2 else m3) D with ⟨tt, c, ht, hc, KF⟩ | ⟨s, m, ho, hM, KF⟩
  · refine .inl ⟨2, (p : Int) + 40 + 4 * (tt : Int), (p + n), x, by decide, by decide, fun b l f W hT h1 h2 h => ?_, fun W => ?_⟩
    · have R := cmasks_n_bad b l T z p (p + n) f T.size fm (n : Nat) (by omega) X Y P D C x W h hT h1 h2 (by omega) (by omega) tt c ht hc (by omega) m0 m1 m2 m3 f0 f1 f2 f3 KF
      rw [show (p : Int) + (40 + 4 * (tt : Int)) = (p : Int) + 40 + 4 * (tt : Int) from by omega] at R
      exact R
    · exact rmasks_n_bad T (n : Nat) (by omega) X (fa Y) D (clrC D C) (decide (Y < 0)) p T.size ((p + n : Nat) : Int) W (by omega) (by omega) (by omega) (by omega) tt c ht hc m0 m1 m2 m3 e0 e1 e2 e3 KF
  · have g0 : m0 = (maskW (s 0) (m 0) : Nat) := hM 0 (by decide)
    have g1 : m1 = (maskW (s 1) (m 1) : Nat) := hM 1 (by decide)
    have g2 : m2 = (maskW (s 2) (m 2) : Nat) := hM 2 (by decide)
    have g3 : m3 = (maskW (s 3) (m 3) : Nat) := hM 3 (by decide)
    refine .inr ⟨s, m, (p + n), x, ho, by omega, by omega, .inl rfl, by rw [if_neg (by omega)], by rw [← g0, ← g1, ← g2, ← g3]; exact KF, fun b l f W hT h1 h2 h => ?_, fun W => ?_⟩
    · have R := cmasks_n_good b l T z p (p + n) f T.size fm (n : Nat) (by omega) X Y P D C x W h hT h1 h2 (by omega) (by omega) _ _ _ _ _ _ _ _ m0 m1 m2 m3 f0 f1 f2 f3 KF
      exact R
    · rw [← g0, ← g1, ← g2, ← g3]
      exact rmasks_n_good T (n : Nat) (by omega) X (fa Y) D (clrC D C) (decide (Y < 0)) p T.size ((p + n : Nat) : Int) W (by omega) (by omega) (by omega) (by omega) m0 m1 m2 m3 e0 e1 e2 e3 _ KF

theorem mskx_any (T z : ByteArray) (p n : Nat) (hn : n = 40 ∨ n = 52 ∨ n = 56 ∨ n = 108 ∨ n = 124) (hle : p + n ≤ T.size) (hbig : T.size ≤ 4611686018427387904) (hz : T.extract p (p + n) = z) (X Y P D C : Int) (fm : Int) (x : St) (GW1 : GW 1 x) : MskBad T z p n fm x X Y P D C ∨ MskGoodX T z p n fm x X Y P D C := by
  rcases hn with rfl | rfl | h
  · exact mskx_40 T z p hle hbig hz X Y P D C fm x GW1
  · exact mskx_52 T z p hle hbig hz X Y P D C fm x
  · exact mskx_n T z p n (by omega) (by omega) hle hbig hz X Y P D C fm x

end Go.Proofs.YtikjfmpdfeaooaaDoor.Dh

/- Layer 20: a head, by both sides, told more of (written by wip/gen/dhp.py). -/
namespace Go.Proofs.YtikjfmpdfeaooaaDoor.Dh
open Go.ChangeShapes Go.WideShapes Go.ChangeAt Go.RowKit
open Go.Proofs.YtikjfmpdfeaooaaDoor.Le Go.Proofs.YtikjfmpdfeaooaaDoor.Sr Go.Proofs.YtikjfmpdfeaooaaDoor.Ma
set_option linter.unusedVariables false

/-- What the places of masks are, where they are told (method 3), and where not. -/
structure MW (M D : Int) (s m : Nat → Nat) : Prop where
  three : M = 3 → FourIs (fun k => if k = 0 then ((maskW (s 0) (m 0) : Nat) : Int) else if k = 1 then ((maskW (s 1) (m 1) : Nat) : Int) else if k = 2 then ((maskW (s 2) (m 2) : Nat) : Int) else ((maskW (s 3) (m 3) : Nat) : Int)) D #[.int .i64 (s 0 : Nat), .int .i64 (m 0 : Nat), .int .i64 (s 1 : Nat), .int .i64 (m 1 : Nat), .int .i64 (s 2 : Nat), .int .i64 (m 2 : Nat), .int .i64 (s 3 : Nat), .int .i64 (m 3 : Nat)] 0 0
  other : M ≠ 3 → cmV D 0 = (s 0 : Nat) ∧ cmV D 1 = (m 0 : Nat) ∧ cmV D 2 = (s 1 : Nat) ∧ cmV D 3 = (m 1 : Nat) ∧ cmV D 4 = (s 2 : Nat) ∧ cmV D 5 = (m 2 : Nat) ∧ cmV D 6 = (s 3 : Nat) ∧ cmV D 7 = (m 3 : Nat) ∧
    cwV D 0 = (maskW (s 0) (m 0) : Nat) ∧ cwV D 1 = (maskW (s 1) (m 1) : Nat) ∧ cwV D 2 = (maskW (s 2) (m 2) : Nat) ∧ (0 : Int) = (maskW (s 3) (m 3) : Nat)

def GoodX (T : ByteArray) (p : Nat) (fm : Int) (x : St) : Prop := ∃ (S X Y D M C : Int) (tp : Bool) (s n : Nat → Nat) (q : Nat) (y : St),
  GH S X Y D M C ∧ (M = 1 ∨ M = 2 → tp = false) ∧ (∀ k, k < 4 → okP (s k) (n k)) ∧ p + 12 ≤ q ∧ q ≤ T.size ∧ (y = ((x.work 1).1.work 1).1 ∨ y = (((x.work 1).1.work 1).1.work 1).1) ∧
  (S = 40 → q = p + (if M = 3 then 52 else 40)) ∧ MW M D s n ∧
  CRd T p fm x q y (.agg #[.int .i64 S, .int .i64 X, .int .i64 Y, .bool tp, .int .i64 D, .int .i64 M, .int .i64 C, .int .i64 (s 0 : Nat), .int .i64 (n 0 : Nat), .int .i64 (s 1 : Nat), .int .i64 (n 1 : Nat), .int .i64 (s 2 : Nat), .int .i64 (n 2 : Nat), .int .i64 (s 3 : Nat), .int .i64 (n 3 : Nat), .int .i64 (p : Nat)]) (flV 0 0 0) ∧
  DRd T p #[.int .i64 S, .int .i64 X, .int .i64 Y, .bool tp, .int .i64 D, .int .i64 M, .int .i64 C, .int .i64 (maskW (s 0) (n 0) : Nat), .int .i64 (maskW (s 1) (n 1) : Nat), .int .i64 (maskW (s 2) (n 2) : Nat), .int .i64 (maskW (s 3) (n 3) : Nat), .int .i64 (p : Nat), .int .i64 (q : Nat), .int .i64 0, .int .i64 0]

theorem long_bothX (T z : ByteArray) (p n K : Nat) (fm : Int) (x : St) (Gx : GW 3 x) (hbig : T.size ≤ 4611686018427387904) (hn4 : w4 T p = n) (hr : rdH (n : Int) = true) (h12 : n ≠ 12) (hpn : p + n ≤ T.size) (hz : T.extract p (p + n) = z) (F : FstB (ckD (n : Nat) (nW z) (nH z) (nP z) (nD z) (nM z) (nC z)) K) :
    BadR T p fm x ∨ GoodX T p fm x := by
  have hzs : z.size = n := by rw [← hz, ByteArray.size_extract]; omega
  have hn : n = 40 ∨ n = 52 ∨ n = 56 ∨ n = 108 ∨ n = 124 := by have := of_decide_eq_true hr; omega
  have G1 := Gx.step (by decide)
  have G2 := G1.step (by decide)
  have hb := nH_bd z
  have eX : sgn (w4 z 4) = nW z := by unfold nW; rw [if_neg (by omega)]
  have eY : sgn (w4 z 8) = nH z := by unfold nH; rw [if_neg (by omega)]
  have eP : ((w2 z 12 : Nat) : Int) = (nP z : Nat) := by unfold nP; rw [if_neg (by omega)]
  have eD : ((w2 z 14 : Nat) : Int) = (nD z : Nat) := by unfold nD; rw [if_neg (by omega)]
  have eM : ((w4 z 16 : Nat) : Int) = (nM z : Nat) := by unfold nM; rw [if_neg (by omega)]
  have eC : ((w4 z 32 : Nat) : Int) = (nC z : Nat) := by unfold nC; rw [if_neg (by omega)]
  have KH : ∀ (b l f : Nat) (u : World), SL b l T p f T.size x u → Calls Tryd.prog 21 #[.agg #[.pointer (some ⟨b, 0, none⟩), .int .i64 fm, .int .i64 (p : Nat)]] u fun e w' => e = .returned (.tuple #[.string z, flV 0 0 0]) ∧ SL b l T (p + n) f T.size ((x.work 1).1.work 1).1 w' ∧ Tn u w' [b, l] :=
    fun b l f u hu => by rw [← hz]; exact head_yes b l T p f T.size fm x u hu Gx.ok (Gx.rd (by decide) (by decide) (by omega)) n hn4 (rd_ot hr) hr G1.ok (G1.rd (by decide) (by omega) (by omega))
  have KN : ∀ u, Calls Tryd.prog 22 #[.string z] u fun e w' => e = .returned (.agg #[.int .i64 (n : Nat), .int .i64 (nW z), .int .i64 (nH z), .int .i64 (nP z), .int .i64 (nD z), .int .i64 (nM z), .int .i64 (nC z)]) ∧ u.grownBy w' none :=
    fun u => by have N := numbers_calls z (by omega) u; unfold nV at N; rw [hzs] at N; exact N
  have DOC : ∀ (RV MV : Array Value), (RV = if K < 10 then badA (kdD K) ((p : Int) + plD n K) else MV) → MVis MV → (∀ u, Calls Tryd.prog 35 #[.string T, .agg #[.int .i64 (n : Nat), .int .i64 (nW z), .int .i64 (fa (nH z)), .bool (decide (nH z < 0)), .int .i64 (nD z), .int .i64 (nM z), .int .i64 (clrC (nD z) (nC z)), .int .i64 0, .int .i64 0, .int .i64 0, .int .i64 0, .int .i64 (p : Nat), .int .i64 ((p + n : Nat)), .int .i64 0, .int .i64 0], .int .i64 (T.size : Nat)] u fun e w' => e = .returned (.agg MV) ∧ u.grownBy w' none) → DRd T p RV :=
    fun RV MV hR hMV KM W => rlong_any n hn T z p T.size K (nW z) (nH z) (nP z) (nD z) (nM z) (nC z) RV MV W ⟨F, h12, by omega, by omega, by omega, by omega, by omega, hR⟩ hz hpn (Nat.le_refl _) (by omega) hn4 eX eY eP eD eM eC KM hMV
  by_cases hK : K < 10
  · -- something is wrong with the numbers
    refine .inl ⟨kdD K, (p : Int) + plD n K, p + n, ((x.work 1).1.work 1).1, (kd_bd hK).1, (kd_bd hK).2, code_wrong T z p n K fm x Gx hbig hn4 hr hpn hz hK F, ?_⟩
    by_cases h3 : nM z = 3
    · rcases mskx_any T z p n hn hpn hbig hz (nW z) (nH z) (nP z) (nD z) (nC z) fm _ G2 with ⟨kk, a0, qq, yy, _, _, _, KD⟩ | ⟨s, m, qq, yy, _, _, _, _, _, _, _, KD⟩
      · exact DOC _ _ (by rw [if_pos hK]) ⟨_, _, _, _, _, _, _, _, _, _, _, _, _, _, _, rfl⟩ (fun u => by rw [h3]; exact KD u)
      · exact DOC _ _ (by rw [if_pos hK]) ⟨_, _, _, _, _, _, _, _, _, _, _, _, _, _, _, rfl⟩ (fun u => by rw [h3]; exact KD u)
    · exact DOC _ _ (by rw [if_pos hK]) ⟨_, _, _, _, _, _, _, _, _, _, _, _, _, _, _, rfl⟩ (fun u => rmasks_none T _ _ _ _ _ _ _ p T.size _ u (by omega))
  have hK10 : K = 10 := by have := F.le; omega
  subst hK10
  obtain ⟨GHh, hpk⟩ := good_head hr (by omega) (by omega) F
  have KW : ∀ u, Calls Tryd.prog 23 #[.agg #[.int .i64 (n : Nat), .int .i64 (nW z), .int .i64 (nH z), .int .i64 (nP z), .int .i64 (nD z), .int .i64 (nM z), .int .i64 (nC z)]] u fun e w' => e = .returned (.tuple #[.int .i64 0, .int .i64 0]) ∧ u.grownBy w' none :=
    fun u => wrong_calls _ _ _ _ _ _ _ 10 u (by omega) (by omega) F
  by_cases h3 : nM z = 3
  · rcases mskx_any T z p n hn hpn hbig hz (nW z) (nH z) (nP z) (nD z) (nC z) fm _ G2 with ⟨kk, a0, qq, yy, k1, k3, KC, KD⟩ | ⟨s, m, qq, yy, ho, q1, q2, hy, hqq, KF, KC, KD⟩
    · refine .inl ⟨kk, a0, qq, yy, k1, k3, fun b l f W h hT h1 h2 => ?_, DOC (badA kk a0) (badA kk a0) (by rw [if_neg hK]) ⟨_, _, _, _, _, _, _, _, _, _, _, _, _, _, _, rfl⟩ (fun u => by rw [h3]; exact KD u)⟩
      exact read_nomasks b l T p f T.size fm x W h z (n : Nat) (nW z) (nH z) (nP z) (nD z) (nM z) (nC z) kk a0 (by omega) (p + n) qq ((x.work 1).1.work 1).1 yy (fun u hu => KH b l f u hu) KN KW
        (fun u hu ht => by rw [h3]; exact KC b l f u (Tab.tn hT ht (by simp [h1, h2])) h1 h2 hu)
    · refine .inr ⟨(n : Nat), nW z, fa (nH z), nD z, nM z, clrC (nD z) (nC z), decide (nH z < 0), s, m, qq, yy, GHh, hpk, ho, q1, q2, hy, fun h40 => by rw [hqq, h3, if_pos (by omega)]; rfl, ⟨fun _ => KF, fun h => absurd (by rw [h3]; rfl) h⟩, fun b l f W h hT h1 h2 => ?_, DOC _ _ (by rw [if_neg hK]) ⟨_, _, _, _, _, _, _, _, _, _, _, _, _, _, _, rfl⟩ (fun u => by rw [h3]; exact KD u)⟩
      exact read_good b l T p f T.size fm x W h z (n : Nat) (nW z) (nH z) (nP z) (nD z) (nM z) (nC z) _ _ _ _ _ _ _ _ (by omega) (p + n) qq ((x.work 1).1.work 1).1 yy (fun u hu => KH b l f u hu) KN KW
        (fun u hu ht => by rw [h3]; exact KC b l f u (Tab.tn hT ht (by simp [h1, h2])) h1 h2 hu)
  · obtain ⟨s, m, ho, c0, c1, c2, c3, c4, c5, c6, c7, w0, w1, w2, w3⟩ := common_places (nD z)
    refine .inr ⟨(n : Nat), nW z, fa (nH z), nD z, nM z, clrC (nD z) (nC z), decide (nH z < 0), s, m, p + n, ((x.work 1).1.work 1).1, GHh, hpk, ho, by omega, by omega, .inl rfl, fun h40 => by rw [if_neg (by omega)]; omega, ⟨fun h => absurd h (by omega), fun _ => ⟨c0, c1, c2, c3, c4, c5, c6, c7, w0, w1, w2, w3⟩⟩, fun b l f W h hT h1 h2 => ?_, ?_⟩
    · have R := read_plain b l T p f T.size fm x W h Gx.ok (Gx.rd (by decide) (by decide) (by omega)) n hn4 hr G1.ok (G1.rd (by decide) (by omega) (by omega)) z hz h3 (by rw [hzs]; exact F)
      unfold headV at R
      rw [hzs, c0, c1, c2, c3, c4, c5, c6, c7] at R
      exact R
    · refine DOC _ _ (by rw [if_neg hK]) ⟨_, _, _, _, _, _, _, _, _, _, _, _, _, _, _, rfl⟩ (fun u => ?_)
      rw [← w0, ← w1, ← w2, ← w3]
      exact rmasks_none T _ _ _ _ _ _ _ p T.size _ u (by omega)

theorem short_bothX (T z : ByteArray) (p K : Nat) (fm : Int) (x : St) (Gx : GW 3 x) (hbig : T.size ≤ 4611686018427387904) (hn4 : w4 T p = 12) (hpn : p + 12 ≤ T.size) (hz : T.extract p (p + 12) = z) (F : FstB (ckD (12 : Nat) (nW z) (nH z) (nP z) (nD z) (nM z) (nC z)) K) :
    BadR T p fm x ∨ GoodX T p fm x := by
  have hzs : z.size = 12 := by rw [← hz, ByteArray.size_extract]; omega
  have G1 := Gx.step (by decide)
  have hr : rdH ((12 : Nat) : Int) = true := by decide
  have eX : ((w2 z 4 : Nat) : Int) = nW z := by unfold nW; rw [if_pos hzs]
  have eY : ((w2 z 6 : Nat) : Int) = nH z := by unfold nH; rw [if_pos hzs]
  have eP : ((w2 z 8 : Nat) : Int) = (nP z : Nat) := by unfold nP; rw [if_pos hzs]
  have eD : ((w2 z 10 : Nat) : Int) = (nD z : Nat) := by unfold nD; rw [if_pos hzs]
  have eM : nM z = 0 := by unfold nM; rw [if_pos hzs]
  have eC : nC z = 0 := by unfold nC; rw [if_pos hzs]
  have hY : 0 ≤ nH z := by rw [← eY]; omega
  have F0 := F
  rw [eM, eC] at F0
  have SH := shV_is p (nW z) (nH z) (nP z) (nD z) K hY F0
  have DOC : DRd T p (shV p (nW z) (nH z) (nP z) (nD z)) := fun W => rread_twelve T p T.size W (Nat.le_refl _) (by omega) (by omega) hpn hn4 z hz (nW z) (nH z) (nP z) (nD z) (by omega) eX eY eP eD
  rw [SH] at DOC
  by_cases hK : K < 10
  · rw [if_pos hK] at DOC
    exact .inl ⟨kdD K, (p : Int) + plD 12 K, p + 12, ((x.work 1).1.work 1).1, (kd_bd hK).1, (kd_bd hK).2, code_wrong T z p 12 K fm x Gx hbig hn4 hr hpn hz hK F, DOC⟩
  have hK10 : K = 10 := by have := F.le; omega
  subst hK10
  rw [if_neg hK] at DOC
  obtain ⟨GHh, hpk⟩ := good_head hr (by omega) (by omega) F
  have hfa : fa (nH z) = nH z := if_pos hY
  have hneg : decide (nH z < 0) = false := decide_eq_false (by omega)
  have hD : (nD z : Int) ≠ 16 ∧ (nD z : Int) ≠ 32 := by
    have h5 : dpH (nD z) ((12 : Nat) : Int) = true := by
      have := F.no 5 (by omega)
      simpa [ckD] using this
    have h5 := of_decide_eq_true h5
    omega
  have e2 : ∀ k, cwV (nD z) k = 0 := fun k => by unfold cwV; rw [if_neg hD.1, if_neg hD.2]
  have e : ∀ k, cmV (nD z) k = 0 := fun k => by unfold cmV; rw [if_neg hD.1, if_neg hD.2]
  refine .inr ⟨((12 : Nat) : Int), nW z, fa (nH z), nD z, nM z, clrC (nD z) (nC z), decide (nH z < 0), fun _ => 0, fun _ => 0, p + 12, ((x.work 1).1.work 1).1, GHh, hpk, fun _ _ => .inl ⟨rfl, rfl⟩, by omega, by omega, .inl rfl, fun h40 => absurd h40 (by decide), ⟨fun h => absurd h (by omega), fun _ => ⟨e 0, e 1, e 2, e 3, e 4, e 5, e 6, e 7, e2 0, e2 1, e2 2, rfl⟩⟩, fun b l f W h hT h1 h2 => ?_, ?_⟩
  · have R := read_plain b l T p f T.size fm x W h Gx.ok (Gx.rd (by decide) (by decide) (by omega)) 12 hn4 hr G1.ok (G1.rd (by decide) (by decide) (by omega)) z hz (by omega) (by rw [hzs]; exact F)
    unfold headV at R
    rw [hzs] at R
    simp only [e] at R
    exact R
  · rw [hfa, hneg, eM, eC]
    exact DOC

/-- Any bytes from a place on are a head, or none, by the code as by the document; told more of. -/
theorem read_bothX (T : ByteArray) (p : Nat) (fm : Int) (x : St) (Gx : GW 3 x) (hp : p ≤ T.size) (hbig : T.size ≤ 4611686018427387904) : BadR T p fm x ∨ GoodX T p fm x := by
  have hsm : T.size ≤ 9223372036854775807 := by omega
  have G1 := Gx.step (by decide)
  have G2 := G1.step (by decide)
  by_cases h4 : T.size < p + 4
  · refine .inl ⟨1, T.size, p, (x.work 1).1, by decide, by decide, fun b l f W h hT h1 h2 => ?_, fun W => rread_less4 T p T.size W (Nat.le_refl _) hsm hp h4⟩
    exact read_nohead b l T p f T.size fm x W h 1 T.size (by decide) p _ (fun u hu => head_no1 b l T p f T.size fm x u hu Gx.ok (Gx.no (by decide) (by omega)) 1 T.size (by rw [if_pos G1.r]; rfl))
  obtain ⟨n, hn4⟩ : ∃ n, w4 T p = n := ⟨_, rfl⟩
  have rd4 : rdB x p T.size 4 = true := Gx.rd (by decide) (by decide) (by omega)
  cases ho : otH (n : Int) with
  | true =>
    refine .inl ⟨3, p, p + 4, (x.work 1).1, by decide, by decide, fun b l f W h hT h1 h2 => ?_, ?_⟩
    · exact read_nohead b l T p f T.size fm x W h 3 p (by decide) (p + 4) _ (fun u hu => head_other b l T p f T.size fm x u hu Gx.ok rd4 n hn4 ho)
    · have := of_decide_eq_true ho
      rcases (by omega : n = 16 ∨ n = 64) with rfl | rfl
      · exact fun W => rread_is16 T p T.size W (Nat.le_refl _) hsm hp (by omega) hn4
      · exact fun W => rread_is64 T p T.size W (Nat.le_refl _) hsm hp (by omega) hn4
  | false =>
    cases hr : rdH (n : Int) with
    | false =>
      refine .inl ⟨2, p, p + 4, (x.work 1).1, by decide, by decide, fun b l f W h hT h1 h2 => ?_, ?_⟩
      · exact read_nohead b l T p f T.size fm x W h 2 p (by decide) (p + 4) _ (fun u hu => head_bad b l T p f T.size fm x u hu Gx.ok rd4 n hn4 ho hr)
      · have a := of_decide_eq_false ho
        have c := of_decide_eq_false hr
        exact fun W => rread_unknown T p T.size W (Nat.le_refl _) hsm hp (by omega) n hn4 (by omega) (by omega) (by omega) (by omega) (by omega) (by omega) (by omega) (by omega)
    | true =>
      have hc := of_decide_eq_true hr
      have hc : n = 12 ∨ n = 40 ∨ n = 52 ∨ n = 56 ∨ n = 108 ∨ n = 124 := by omega
      by_cases hov : T.size < p + n
      · refine .inl ⟨1, T.size, p + 4, ((x.work 1).1.work 1).1, by decide, by decide, fun b l f W h hT h1 h2 => ?_, ?_⟩
        · exact read_nohead b l T p f T.size fm x W h 1 T.size (by decide) (p + 4) _ (fun u hu => head_no2 b l T p f T.size fm x u hu Gx.ok rd4 n hn4 ho hr G1.ok (G1.no (by decide) (by omega)) 1 T.size (by rw [if_pos G2.r]; rfl))
        · rcases hc with rfl | rfl | rfl | rfl | rfl | rfl
          · exact fun W => rread_over12 T p T.size W (Nat.le_refl _) hsm hp (by omega) hn4 hov
          · exact fun W => rread_over40 T p T.size W (Nat.le_refl _) hsm hp (by omega) hn4 hov
          · exact fun W => rread_over52 T p T.size W (Nat.le_refl _) hsm hp (by omega) hn4 hov
          · exact fun W => rread_over56 T p T.size W (Nat.le_refl _) hsm hp (by omega) hn4 hov
          · exact fun W => rread_over108 T p T.size W (Nat.le_refl _) hsm hp (by omega) hn4 hov
          · exact fun W => rread_over124 T p T.size W (Nat.le_refl _) hsm hp (by omega) hn4 hov
      obtain ⟨z, hz⟩ : ∃ z, T.extract p (p + n) = z := ⟨_, rfl⟩
      obtain ⟨K, F⟩ := fst_ex (ckD (n : Nat) (nW z) (nH z) (nP z) (nD z) (nM z) (nC z))
      by_cases h12 : n = 12
      · subst h12
        exact short_bothX T z p K fm x Gx hbig hn4 (by omega) hz F
      · exact long_bothX T z p n K fm x Gx hbig hn4 hr h12 (by omega) hz F

end Go.Proofs.YtikjfmpdfeaooaaDoor.Dh

/- Layer 20: numbers put into bytes; a height's sign; a mask's word, whatever its place. -/
namespace Go.Proofs.YtikjfmpdfeaooaaDoor.Dh
open Go.ChangeShapes Go.WideShapes Go.ChangeAt Go.RowKit
open Go.Proofs.YtikjfmpdfeaooaaDoor.Le Go.Proofs.YtikjfmpdfeaooaaDoor.Sr Go.Proofs.YtikjfmpdfeaooaaDoor.Ma
set_option linter.unusedVariables false

/-- Byte number k of a number; a list of bytes with the first n of them put in at a place. -/
def byI (v : Int) (k : Nat) : Int := v / 2 ^ (8 * k) % 256
def putL (L : List UInt8) (a : Nat) (v : Int) : Nat → List UInt8
  | 0 => L
  | k + 1 => (putL L a v k).set (a + k) (UInt8.ofNat (byI v k).toNat)
theorem putL_len (L : List UInt8) (a : Nat) (v : Int) : ∀ n, (putL L a v n).length = L.length
  | 0 => rfl
  | k + 1 => by rw [putL, List.length_set, putL_len L a v k]
theorem byI_bd (v : Int) (k : Nat) : 0 ≤ byI v k ∧ byI v k ≤ 255 := by unfold byI; omega

set_option maxRecDepth 100000 in
set_option maxHeartbeats 4000000 in
theorem put_calls (c : Nat) (L : List UInt8) (a n : Nat) (v : Int) (W : World) (h : UB c L W) (han : a + n ≤ L.length) (hn : n = 2 ∨ n = 4) (hL : L.length ≤ 1000) :
    Calls Tryd.prog 60 #[.slice (some ⟨c, 0, none⟩) L.length L.length, .int .i64 a, .int .i64 n, .int .i64 v] W fun e w' => e = .returned (.tuple #[]) ∧ UB c (putL L a v n) w' ∧ W.grownBy w' (some c) := by
  obtain ⟨N, hN⟩ : ∃ N, L.length = N := ⟨_, rfl⟩
  rw [hN]
  have HN := Lib.hid hN
  rw [hN] at han hL
  have HU := Lib.hid h
  clear h hN
  go_enter Tryd.func60, Tryd.ntmps60
  go_wp2_with fail
  go_loopg [10] n (fun mq iv wr => ∃ k : Nat, k ≤ n ∧ mq = n - k ∧ iv = .int .i64 k ∧ UB c (putL L a v k) wr ∧ W.grownBy wr (some c))
  case atStart => exact ⟨0, by omega, rfl, rfl, HU.out, gb_refl _ _⟩
  case round =>
    obtain ⟨k, hk, rfl, rfl, J, G⟩ := hrel
    clear HU
    have HG := Lib.hid G
    have HJ := Lib.hid J
    clear G J
    by_cases hkn : k = n
    · subst hkn
      clear hk han hn
      go_wp2
      go_end0
      exact ⟨rfl, HJ.out, HG.out⟩
    · have hl : a + k < (putL L a v k).length := by rw [putL_len, HN.out]; omega
      obtain ⟨c10, c2⟩ := HJ.out.cell (a + k) hl
      obtain ⟨x0, c1⟩ : ∃ x : Int, wr.cell? ⟨c, a + k, none⟩ = some (.int .u8 x) := ⟨_, c10⟩
      clear c10
      have hk3 : k = 0 ∨ k = 1 ∨ k = 2 ∨ k = 3 := by omega
      have hkn' : (k : Int) < (n : Int) := by omega
      have hb := byI_bd v k
      have hix : IntKind.i64.wrap ((a : Int) + (k : Int)) = ((a + k : Nat) : Int) := by rw [IntWalk.i64_in _ (by omega)]; omega
      have h8 : IntKind.i64.wrap (8 * (k : Int)) = ((8 * k : Nat) : Int) := by rw [IntWalk.i64_in _ (by omega)]; omega
      have hi0 : (0 : Int) ≤ ((a + k : Nat) : Int) := by omega
      have hi1 : ((a + k : Nat) : Int) < (N : Int) := by omega
      have hw1 : IntKind.i64.wrap ((k : Int) + 1) = ((k + 1 : Nat) : Int) := by rw [IntWalk.i64_in _ (by omega)]; omega
      obtain ⟨ak, hak⟩ : ∃ q, a + k = q := ⟨_, rfl⟩
      simp only [hak] at c1 c2 hix hi0 hi1
      have HAK := Lib.hid hak
      clear hl hak
      go_wp2
      go_roundg (n - (k + 1))
      case measure => omega
      case rel => exact ⟨k + 1, by omega, rfl, by first | rfl | simp [*] | go_num, by rw [putL, HAK.out]; exact HJ.out.set ak (byI v k) (byI_bd v k), gb_trans HG.out (gb_set _ _ _ _)⟩

/-- A height by its sign. -/
def hV (h : Int) (tp : Bool) : Int := if tp then IntKind.i64.wrap (-h) else h
theorem signed_calls (h : Int) (tp : Bool) (W : World) : Calls Tryd.prog 61 #[.int .i64 h, .bool tp] W fun e w' => e = .returned (.int .i64 (hV h tp)) ∧ W = w' := by
  cases tp with
  | true =>
    rw [show hV h true = IntKind.i64.wrap (-h) from rfl]
    obtain ⟨r, hr⟩ : ∃ r, IntKind.i64.wrap (-h) = r := ⟨_, rfl⟩
    have hr2 : IntKind.i64.wrap (0 - h) = r := by rw [← hr, Int.zero_sub]
    rw [hr]
    go_enter Tryd.func61, Tryd.ntmps61
    go_wp2
    go_ret
    exact ⟨by first | rfl | simp [*], rfl⟩
  | false =>
    rw [show hV h false = h from rfl]
    go_enter Tryd.func61, Tryd.ntmps61
    go_wp2
    go_ret
    exact ⟨rfl, rfl⟩

theorem has_any (s n : Int) (w : World) (h2 : s ≤ 9223372036854775807) : Calls Tryd.prog 56 #[.agg #[.int .i64 s, .int .i64 n]] w fun e w' => e = .returned (.bool (hasB s n)) ∧ w.grownBy w' none := by
  by_cases h1 : 1 ≤ n
  · by_cases h0 : 0 ≤ s
    · have hw0 : IntKind.i64.wrap (32 - s) = 32 - s := IntWalk.i64_in _ (by omega)
      by_cases h3 : n ≤ 32 - s
      · have e : hasB s n = true := by unfold hasB; simp [h1, h0, h3]
        rw [e]
        have d1 : decide (n ≤ 32 - s) = true := decide_eq_true h3
        obtain ⟨r, hr⟩ : ∃ r, 32 - s = r := ⟨_, rfl⟩
        have hw : IntKind.i64.wrap (32 - s) = r := hw0.trans hr
        rw [hr] at d1 h3
        clear e hr hw0
        go_enter Tryd.func56, Tryd.ntmps56
        go_wp2
        go_ret
        exact ⟨by first | rfl | simp [*], World.grownBy_alloc _ _ _⟩
      · have e : hasB s n = false := by unfold hasB; simp [h1, h0, h3]
        rw [e]
        have d1 : decide (n ≤ 32 - s) = false := decide_eq_false h3
        obtain ⟨r, hr⟩ : ∃ r, 32 - s = r := ⟨_, rfl⟩
        have hw : IntKind.i64.wrap (32 - s) = r := hw0.trans hr
        rw [hr] at d1 h3
        clear e hr hw0
        go_enter Tryd.func56, Tryd.ntmps56
        go_wp2
        go_ret
        exact ⟨by first | rfl | simp [*], World.grownBy_alloc _ _ _⟩
    · have e : hasB s n = false := by unfold hasB; simp [h0]
      rw [e]
      have d1 : decide (0 ≤ s) = false := decide_eq_false h0
      clear e
      go_enter Tryd.func56, Tryd.ntmps56
      go_wp2
      go_ret
      exact ⟨by first | rfl | simp [*], World.grownBy_alloc _ _ _⟩
  · have e : hasB s n = false := by unfold hasB; simp [h1]
    rw [e]
    have d1 : decide (1 ≤ n) = false := decide_eq_false h1
    clear e
    go_enter Tryd.func56, Tryd.ntmps56
    go_wp2
    go_ret
    exact ⟨by first | rfl | simp [*], World.grownBy_alloc _ _ _⟩

theorem word_none (s n : Int) (w : World) (h2 : s ≤ 9223372036854775807) (hb : hasB s n = false) : Calls Tryd.prog 36 #[.agg #[.int .i64 s, .int .i64 n]] w fun e w' => e = .returned (.int .i64 0) ∧ w.grownBy w' none := by
  have KH := fun u => has_any s n u h2
  rw [hb] at KH
  have KH := Lib.hid KH
  clear hb h2
  go_enter Tryd.func36, Tryd.ntmps36
  go_wp2_with fail
  refine (KH.out _).mono ?_
  rintro e w1 ⟨rfl, g1⟩
  have G1 := Lib.hid (gb_trans (World.grownBy_alloc _ _ _) g1)
  clear g1
  go_wp2
  go_ret
  exact ⟨rfl, G1.out⟩
/-- Whatever a place is: its word, from 0 to 2^32 - 1. -/
theorem word_any (s n : Int) (h2 : s ≤ 9223372036854775807) : ∃ r : Nat, r < 4294967296 ∧ ∀ w, Calls Tryd.prog 36 #[.agg #[.int .i64 s, .int .i64 n]] w fun e w' => e = .returned (.int .i64 r) ∧ w.grownBy w' none := by
  cases hb : hasB s n with
  | false => exact ⟨0, by decide, fun w => word_none s n w h2 hb⟩
  | true =>
    unfold hasB at hb
    simp only [Bool.and_eq_true, decide_eq_true_eq] at hb
    obtain ⟨S, rfl⟩ : ∃ S : Nat, s = S := ⟨s.toNat, by omega⟩
    obtain ⟨N, rfl⟩ : ∃ N : Nat, n = N := ⟨n.toNat, by omega⟩
    exact ⟨blk S N, blk_lt32 (by omega), fun w => word_yes S N w (by omega) (by omega)⟩

end Go.Proofs.YtikjfmpdfeaooaaDoor.Dh

/- Layer 20: a head's bytes, walked (written by wip/gen/dbt.py). -/
namespace Go.Proofs.YtikjfmpdfeaooaaDoor.Dh
open Go.ChangeShapes Go.WideShapes Go.ChangeAt Go.RowKit
open Go.Proofs.YtikjfmpdfeaooaaDoor.Le Go.Proofs.YtikjfmpdfeaooaaDoor.Sr Go.Proofs.YtikjfmpdfeaooaaDoor.Ma
set_option linter.unusedVariables false

/-- A head's bytes; those of its masks behind them. -/
def txA (N : Nat) (S X Y : Int) (tp : Bool) (D M : Int) : List UInt8 := putL (putL (putL (putL (putL (putL (List.replicate N 0) 0 S 4) 4 X 4) 8 (hV Y tp) 4) 12 1 2) 14 D 2) 16 M 4
def txB (N : Nat) (S X Y : Int) (tp : Bool) (D M C : Int) : List UInt8 := if C = allC D then txA N S X Y tp D M else putL (txA N S X Y tp D M) 32 C 4
def txC (S X Y : Int) (tp : Bool) (D C r0 r1 r2 : Int) : List UInt8 := putL (putL (putL (txB 52 S X Y tp D 3 C) 40 r0 4) 44 r1 4) 48 r2 4
theorem txA_len (N : Nat) (S X Y : Int) (tp : Bool) (D M : Int) : (txA N S X Y tp D M).length = N := by
  unfold txA
  rw [putL_len, putL_len, putL_len, putL_len, putL_len, putL_len, List.length_replicate]
theorem txB_len (N : Nat) (S X Y : Int) (tp : Bool) (D M C : Int) : (txB N S X Y tp D M C).length = N := by
  unfold txB
  split
  · exact txA_len N S X Y tp D M
  · rw [putL_len, txA_len]
theorem txC_len (S X Y : Int) (tp : Bool) (D C r0 r1 r2 : Int) : (txC S X Y tp D C r0 r1 r2).length = 52 := by
  unfold txC
  rw [putL_len, putL_len, putL_len, txB_len]
theorem put_at (c : Nat) (L : List UInt8) (N a n : Nat) (v : Int) (W : World) (h : UB c L W) (hN : L.length = N) (han : a + n ≤ N) (hn : n = 2 ∨ n = 4) (hL : N ≤ 1000) :
    Calls Tryd.prog 60 #[.slice (some ⟨c, 0, none⟩) N N, .int .i64 a, .int .i64 n, .int .i64 v] W fun e w' => e = .returned (.tuple #[]) ∧ UB c (putL L a v n) w' ∧ W.grownBy w' (some c) := by
  have K := put_calls c L a n v W h (by omega) hn (by omega)
  rw [hN] at K
  exact K
theorem conv_at (c : Nat) (L : List UInt8) (N : Nat) (w : World) (h : UB c L w) (hN : L.length = N) : (convert 48 9 (.slice (some ⟨c, 0, none⟩) N N)).run Tryd.prog w = .ok (.string ⟨L.toArray⟩) w := by
  have K := h.conv
  rw [hN] at K
  exact K

/-- The head's block, the bytes, the places. -/
structure XI (W : World) (H : Array Value) (L : List UInt8) (N c pb : Nat) (w : World) : Prop where
  h : w.heap[W.heap.size]? = some (.cells H 31 (0, 0))
  u : UB c L w
  p : w.heap[pb]? = some (.cells #[.int .i64 8, .int .i64 12, .int .i64 14] 104 (0, 0))
  g : W.grownBy w none
  hc : W.heap.size < c
  hp : c < pb
  n : L.length = N
theorem XI.put {W : World} {H : Array Value} {L L' : List UInt8} {N c pb : Nat} {w w' : World} (h : XI W H L N c pb w) (U : UB c L' w') (g : w.grownBy w' (some c)) (e : L'.length = N) : XI W H L' N c pb w' :=
  ⟨old0 g h.h (blk_lt h.h) (by have := h.hc; simp; omega), U, old0 g h.p (blk_lt h.p) (by have := h.hp; simp; omega), gb_own h.g (by have := h.hc; omega) g, h.hc, h.hp, e⟩
theorem XI.gb {W : World} {H : Array Value} {L : List UInt8} {N c pb : Nat} {w w' : World} (h : XI W H L N c pb w) (g : w.grownBy w' none) : XI W H L N c pb w' :=
  ⟨old0 g h.h (blk_lt h.h) (by simp), old0 g h.u (blk_lt h.u) (by simp), old0 g h.p (blk_lt h.p) (by simp), gb_trans h.g g, h.hc, h.hp, h.n⟩

/-- The bytes with the first k masks in them. -/
def lm3 (L : List UInt8) (r0 r1 r2 : Int) : Nat → List UInt8
  | 0 => L
  | 1 => putL L 40 r0 4
  | 2 => putL (putL L 40 r0 4) 44 r1 4
  | _ => putL (putL (putL L 40 r0 4) 44 r1 4) 48 r2 4

set_option maxRecDepth 100000 in
set_option maxHeartbeats 8000000 in
theorem text_plain (S X Y D M C p : Int) (tp : Bool) (v0 v1 v2 v3 v4 v5 v6 v7 : Int) (W : World) (hM : M ≠ 3) :
    Calls Tryd.prog 40 #[.agg #[.int .i64 S, .int .i64 X, .int .i64 Y, .bool tp, .int .i64 D, .int .i64 M, .int .i64 C, .int .i64 v0, .int .i64 v1, .int .i64 v2, .int .i64 v3, .int .i64 v4, .int .i64 v5, .int .i64 v6, .int .i64 v7, .int .i64 p]] W fun e w' => e = .returned (.string ⟨(txB 40 S X Y tp D M C).toArray⟩) ∧ W.grownBy w' none := by
  obtain ⟨Z, hZ⟩ : ∃ Z, txB 40 S X Y tp D M C = Z := ⟨_, rfl⟩
  rw [hZ]
  have HZ := Lib.hid hZ
  clear hZ
  have KP := (fun u => places_calls 40 u)
  rw [show pcA 40 = #[.int .i64 8, .int .i64 12, .int .i64 14] from rfl] at KP
  have KP := Lib.hid KP
  have KSG := Lib.hid (fun u => signed_calls Y tp u)
  have KAC := Lib.hid (fun u => allcolors_calls D u)
  obtain ⟨ac, hac⟩ : ∃ a, allC D = a := ⟨_, rfl⟩
  obtain ⟨sg, hsg⟩ : ∃ a, hV Y tp = a := ⟨_, rfl⟩
  rw [hac] at KAC
  rw [hsg] at KSG
  have HAC := Lib.hid hac
  have HSG := Lib.hid hsg
  clear hac hsg
  have m3 : (M == 3) = false := by rw [beq_eq_false_iff_ne]; exact hM
  clear hM
  go_enter Tryd.func40, Tryd.ntmps40
  go_upto_region 5 with fail
  refine abs_w (R := fun w => w.heap[W.heap.size]? = some (.cells #[.int .i64 S, .int .i64 X, .int .i64 Y, .bool tp, .int .i64 D, .int .i64 M, .int .i64 C, .int .i64 v0, .int .i64 v1, .int .i64 v2, .int .i64 v3, .int .i64 v4, .int .i64 v5, .int .i64 v6, .int .i64 v7, .int .i64 p] 31 (0, 0)) ∧ UB (W.heap.size + 1) (List.replicate 40 0) w ∧ W.grownBy w none) ⟨?_, ?_, ?_⟩ (fun w1 I1 => ?_)
  · exact blk_al blk_at _
  · rw [← size_alloc W (.cells #[.int .i64 S, .int .i64 X, .int .i64 Y, .bool tp, .int .i64 D, .int .i64 M, .int .i64 C, .int .i64 v0, .int .i64 v1, .int .i64 v2, .int .i64 v3, .int .i64 v4, .int .i64 v5, .int .i64 v6, .int .i64 v7, .int .i64 p] 31)]
    exact push_at _ _ _ (by kernel_rfl)
  · exact gb_trans (World.grownBy_alloc _ _ none) (World.grownBy_alloc _ _ none)
  obtain ⟨A1, U1, G1⟩ := I1
  have HA1 := Lib.hid A1
  have HU1 := Lib.hid U1
  have HG1 := Lib.hid G1
  have lc := blk_lt U1
  clear A1 U1 G1
  simp only [size_alloc]
  obtain ⟨c, hc⟩ : ∃ c, W.heap.size + 1 = c := ⟨_, rfl⟩
  rw [hc] at HU1 lc ⊢
  have HC := Lib.hid hc
  clear hc
  go_wp2_with fail
  refine (KP.out _).mono ?_
  rintro e w2 ⟨rfl, g2⟩
  have ga := gb_trans g2 (World.grownBy_alloc w2 (.cells #[.int .i64 8, .int .i64 12, .int .i64 14] 104) none)
  have I3 : XI W #[.int .i64 S, .int .i64 X, .int .i64 Y, .bool tp, .int .i64 D, .int .i64 M, .int .i64 C, .int .i64 v0, .int .i64 v1, .int .i64 v2, .int .i64 v3, .int .i64 v4, .int .i64 v5, .int .i64 v6, .int .i64 v7, .int .i64 p] (List.replicate 40 0) 40 c w2.heap.size (w2.alloc (.cells #[.int .i64 8, .int .i64 12, .int .i64 14] 104)) :=
    ⟨old0 ga HA1.out (blk_lt HA1.out) (by simp), old0 ga HU1.out (blk_lt HU1.out) (by simp), blk_at, gb_trans HG1.out ga, by have := HC.out; omega, Nat.lt_of_lt_of_le lc g2.size, List.length_replicate⟩
  clear g2 ga HA1 HU1 HG1 lc KP
  go_upto_region 6 with fail
  obtain ⟨pb, hpb⟩ : ∃ k, w2.heap.size = k := ⟨_, rfl⟩
  rw [hpb] at I3 ⊢
  generalize w2.alloc (.cells #[.int .i64 8, .int .i64 12, .int .i64 14] 104) = w3 at I3 ⊢
  clear hpb
  have h0 := blk_cell I3.h 0
  have h1 := blk_cell I3.h 1
  have h2 := blk_cell I3.h 2
  have h3 := blk_cell I3.h 3
  have h4 := blk_cell I3.h 4
  have h5 := blk_cell I3.h 5
  have h6 := blk_cell I3.h 6
  have h7 := blk_cell I3.h 7
  have h8 := blk_cell I3.h 8
  have h9 := blk_cell I3.h 9
  have h10 := blk_cell I3.h 10
  have h11 := blk_cell I3.h 11
  have h12 := blk_cell I3.h 12
  have h13 := blk_cell I3.h 13
  have h14 := blk_cell I3.h 14
  have h15 := blk_cell I3.h 15
  have q0 := blk_cell I3.p 0
  have q1 := blk_cell I3.p 1
  have q2 := blk_cell I3.p 2
  have l0 := blk_lt I3.h
  have l1 := blk_lt I3.p
  simp only [List.getElem?_toArray, List.getElem?_cons_succ, List.getElem?_cons_zero] at h0 h1 h2 h3 h4 h5 h6 h7 h8 h9 h10 h11 h12 h13 h14 h15 q0 q1 q2
  have HI := Lib.hid I3
  clear I3
  go_wp2_with fail
  refine (put_at c _ 40 0 4 S _ HI.out.u HI.out.n (by decide) (by decide) (by decide)).mono ?_
  rintro e w9 ⟨rfl, U9, g9⟩
  have I9 := HI.out.put U9 g9 (by rw [putL_len]; exact HI.out.n)
  clear U9 g9 HI h0 h1 h2 h3 h4 h5 h6 h7 h8 h9 h10 h11 h12 h13 h14 h15 q0 q1 q2 l0 l1
  have h0 := blk_cell I9.h 0
  have h1 := blk_cell I9.h 1
  have h2 := blk_cell I9.h 2
  have h3 := blk_cell I9.h 3
  have h4 := blk_cell I9.h 4
  have h5 := blk_cell I9.h 5
  have h6 := blk_cell I9.h 6
  have h7 := blk_cell I9.h 7
  have h8 := blk_cell I9.h 8
  have h9 := blk_cell I9.h 9
  have h10 := blk_cell I9.h 10
  have h11 := blk_cell I9.h 11
  have h12 := blk_cell I9.h 12
  have h13 := blk_cell I9.h 13
  have h14 := blk_cell I9.h 14
  have h15 := blk_cell I9.h 15
  have q0 := blk_cell I9.p 0
  have q1 := blk_cell I9.p 1
  have q2 := blk_cell I9.p 2
  have l0 := blk_lt I9.h
  have l1 := blk_lt I9.p
  simp only [List.getElem?_toArray, List.getElem?_cons_succ, List.getElem?_cons_zero] at h0 h1 h2 h3 h4 h5 h6 h7 h8 h9 h10 h11 h12 h13 h14 h15 q0 q1 q2
  have HI := Lib.hid I9
  clear I9
  go_wp2_with fail
  refine (put_at c _ 40 4 4 X _ HI.out.u HI.out.n (by decide) (by decide) (by decide)).mono ?_
  rintro e w9 ⟨rfl, U9, g9⟩
  have I9 := HI.out.put U9 g9 (by rw [putL_len]; exact HI.out.n)
  clear U9 g9 HI h0 h1 h2 h3 h4 h5 h6 h7 h8 h9 h10 h11 h12 h13 h14 h15 q0 q1 q2 l0 l1
  have h0 := blk_cell I9.h 0
  have h1 := blk_cell I9.h 1
  have h2 := blk_cell I9.h 2
  have h3 := blk_cell I9.h 3
  have h4 := blk_cell I9.h 4
  have h5 := blk_cell I9.h 5
  have h6 := blk_cell I9.h 6
  have h7 := blk_cell I9.h 7
  have h8 := blk_cell I9.h 8
  have h9 := blk_cell I9.h 9
  have h10 := blk_cell I9.h 10
  have h11 := blk_cell I9.h 11
  have h12 := blk_cell I9.h 12
  have h13 := blk_cell I9.h 13
  have h14 := blk_cell I9.h 14
  have h15 := blk_cell I9.h 15
  have q0 := blk_cell I9.p 0
  have q1 := blk_cell I9.p 1
  have q2 := blk_cell I9.p 2
  have l0 := blk_lt I9.h
  have l1 := blk_lt I9.p
  simp only [List.getElem?_toArray, List.getElem?_cons_succ, List.getElem?_cons_zero] at h0 h1 h2 h3 h4 h5 h6 h7 h8 h9 h10 h11 h12 h13 h14 h15 q0 q1 q2
  have HI := Lib.hid I9
  clear I9
  go_upto_region 8 with fail
  go_region_held3 (fun u => u.cell? ⟨pb, 0, none⟩ = some (.int .i64 8) ∧ u.cell? ⟨W.heap.size, 2, none⟩ = some (.int .i64 Y) ∧ u.cell? ⟨W.heap.size, 3, none⟩ = some (.bool tp)) (go_keep)
    (first
      | (go_at_call 61; with_reducible refine (KSG.out _).mono ?_; rintro e w' ⟨rfl, rfl⟩)
      | (go_at_call 60; have HI2 := Lib.hid (HI.out.gb (gb_drew _ none)); refine (put_at c _ 40 8 4 sg _ HI2.out.u HI2.out.n (by decide) (by decide) (by decide)).mono ?_; rintro e u9 ⟨rfl, U9, g9⟩; have J9 := HI2.out.put U9 g9 (by rw [putL_len]; exact HI2.out.n); have y0 := blk_cell J9.p 0; have y2 := blk_cell J9.h 2; have y3 := blk_cell J9.h 3; simp only [List.getElem?_toArray, List.getElem?_cons_succ, List.getElem?_cons_zero] at y0 y2 y3; have HJ9 := Lib.hid J9; clear U9 g9 J9))
  have I9 := HJ9.out
  clear HI HI2 HJ9 y0 y2 y3 h0 h1 h2 h3 h4 h5 h6 h7 h8 h9 h10 h11 h12 h13 h14 h15 q0 q1 q2 l0 l1
  have h0 := blk_cell I9.h 0
  have h1 := blk_cell I9.h 1
  have h2 := blk_cell I9.h 2
  have h3 := blk_cell I9.h 3
  have h4 := blk_cell I9.h 4
  have h5 := blk_cell I9.h 5
  have h6 := blk_cell I9.h 6
  have h7 := blk_cell I9.h 7
  have h8 := blk_cell I9.h 8
  have h9 := blk_cell I9.h 9
  have h10 := blk_cell I9.h 10
  have h11 := blk_cell I9.h 11
  have h12 := blk_cell I9.h 12
  have h13 := blk_cell I9.h 13
  have h14 := blk_cell I9.h 14
  have h15 := blk_cell I9.h 15
  have q0 := blk_cell I9.p 0
  have q1 := blk_cell I9.p 1
  have q2 := blk_cell I9.p 2
  have l0 := blk_lt I9.h
  have l1 := blk_lt I9.p
  simp only [List.getElem?_toArray, List.getElem?_cons_succ, List.getElem?_cons_zero] at h0 h1 h2 h3 h4 h5 h6 h7 h8 h9 h10 h11 h12 h13 h14 h15 q0 q1 q2
  have HI := Lib.hid I9
  clear I9
  go_wp2_with fail
  refine (put_at c _ 40 12 2 1 _ HI.out.u HI.out.n (by decide) (by decide) (by decide)).mono ?_
  rintro e w9 ⟨rfl, U9, g9⟩
  have I9 := HI.out.put U9 g9 (by rw [putL_len]; exact HI.out.n)
  clear U9 g9 HI h0 h1 h2 h3 h4 h5 h6 h7 h8 h9 h10 h11 h12 h13 h14 h15 q0 q1 q2 l0 l1
  have h0 := blk_cell I9.h 0
  have h1 := blk_cell I9.h 1
  have h2 := blk_cell I9.h 2
  have h3 := blk_cell I9.h 3
  have h4 := blk_cell I9.h 4
  have h5 := blk_cell I9.h 5
  have h6 := blk_cell I9.h 6
  have h7 := blk_cell I9.h 7
  have h8 := blk_cell I9.h 8
  have h9 := blk_cell I9.h 9
  have h10 := blk_cell I9.h 10
  have h11 := blk_cell I9.h 11
  have h12 := blk_cell I9.h 12
  have h13 := blk_cell I9.h 13
  have h14 := blk_cell I9.h 14
  have h15 := blk_cell I9.h 15
  have q0 := blk_cell I9.p 0
  have q1 := blk_cell I9.p 1
  have q2 := blk_cell I9.p 2
  have l0 := blk_lt I9.h
  have l1 := blk_lt I9.p
  simp only [List.getElem?_toArray, List.getElem?_cons_succ, List.getElem?_cons_zero] at h0 h1 h2 h3 h4 h5 h6 h7 h8 h9 h10 h11 h12 h13 h14 h15 q0 q1 q2
  have HI := Lib.hid I9
  clear I9
  go_wp2_with fail
  refine (put_at c _ 40 14 2 D _ HI.out.u HI.out.n (by decide) (by decide) (by decide)).mono ?_
  rintro e w9 ⟨rfl, U9, g9⟩
  have I9 := HI.out.put U9 g9 (by rw [putL_len]; exact HI.out.n)
  clear U9 g9 HI h0 h1 h2 h3 h4 h5 h6 h7 h8 h9 h10 h11 h12 h13 h14 h15 q0 q1 q2 l0 l1
  have h0 := blk_cell I9.h 0
  have h1 := blk_cell I9.h 1
  have h2 := blk_cell I9.h 2
  have h3 := blk_cell I9.h 3
  have h4 := blk_cell I9.h 4
  have h5 := blk_cell I9.h 5
  have h6 := blk_cell I9.h 6
  have h7 := blk_cell I9.h 7
  have h8 := blk_cell I9.h 8
  have h9 := blk_cell I9.h 9
  have h10 := blk_cell I9.h 10
  have h11 := blk_cell I9.h 11
  have h12 := blk_cell I9.h 12
  have h13 := blk_cell I9.h 13
  have h14 := blk_cell I9.h 14
  have h15 := blk_cell I9.h 15
  have q0 := blk_cell I9.p 0
  have q1 := blk_cell I9.p 1
  have q2 := blk_cell I9.p 2
  have l0 := blk_lt I9.h
  have l1 := blk_lt I9.p
  simp only [List.getElem?_toArray, List.getElem?_cons_succ, List.getElem?_cons_zero] at h0 h1 h2 h3 h4 h5 h6 h7 h8 h9 h10 h11 h12 h13 h14 h15 q0 q1 q2
  have HI := Lib.hid I9
  clear I9
  go_wp2_with fail
  refine (put_at c _ 40 16 4 M _ HI.out.u HI.out.n (by decide) (by decide) (by decide)).mono ?_
  rintro e w9 ⟨rfl, U9, g9⟩
  have I9 := HI.out.put U9 g9 (by rw [putL_len]; exact HI.out.n)
  clear U9 g9 HI h0 h1 h2 h3 h4 h5 h6 h7 h8 h9 h10 h11 h12 h13 h14 h15 q0 q1 q2 l0 l1
  have h0 := blk_cell I9.h 0
  have h1 := blk_cell I9.h 1
  have h2 := blk_cell I9.h 2
  have h3 := blk_cell I9.h 3
  have h4 := blk_cell I9.h 4
  have h5 := blk_cell I9.h 5
  have h6 := blk_cell I9.h 6
  have h7 := blk_cell I9.h 7
  have h8 := blk_cell I9.h 8
  have h9 := blk_cell I9.h 9
  have h10 := blk_cell I9.h 10
  have h11 := blk_cell I9.h 11
  have h12 := blk_cell I9.h 12
  have h13 := blk_cell I9.h 13
  have h14 := blk_cell I9.h 14
  have h15 := blk_cell I9.h 15
  have q0 := blk_cell I9.p 0
  have q1 := blk_cell I9.p 1
  have q2 := blk_cell I9.p 2
  have l0 := blk_lt I9.h
  have l1 := blk_lt I9.p
  simp only [List.getElem?_toArray, List.getElem?_cons_succ, List.getElem?_cons_zero] at h0 h1 h2 h3 h4 h5 h6 h7 h8 h9 h10 h11 h12 h13 h14 h15 q0 q1 q2
  have HI := Lib.hid I9
  clear I9
  by_cases hC : C = ac
  · have c1 : (C != ac) = false := by rw [bne_eq_false_iff_eq]; exact hC
    have HCE := Lib.hid hC
    clear hC
    go_upto_region 12 with fail
    go_region_held3 (fun u => u.cell? ⟨W.heap.size, 6, none⟩ = some (.int .i64 C) ∧ u.cell? ⟨W.heap.size, 4, none⟩ = some (.int .i64 D)) (go_keep)
      (first
        | (go_at_call 54; with_reducible refine (KAC.out _).mono ?_; rintro e w' ⟨rfl, rfl⟩))
    have I9 := HI.out.gb (gb_drew _ none)
    clear HI h0 h1 h2 h3 h4 h5 h6 h7 h8 h9 h10 h11 h12 h13 h14 h15 q0 q1 q2 l0 l1
    have h0 := blk_cell I9.h 0
    have h1 := blk_cell I9.h 1
    have h2 := blk_cell I9.h 2
    have h3 := blk_cell I9.h 3
    have h4 := blk_cell I9.h 4
    have h5 := blk_cell I9.h 5
    have h6 := blk_cell I9.h 6
    have h7 := blk_cell I9.h 7
    have h8 := blk_cell I9.h 8
    have h9 := blk_cell I9.h 9
    have h10 := blk_cell I9.h 10
    have h11 := blk_cell I9.h 11
    have h12 := blk_cell I9.h 12
    have h13 := blk_cell I9.h 13
    have h14 := blk_cell I9.h 14
    have h15 := blk_cell I9.h 15
    have q0 := blk_cell I9.p 0
    have q1 := blk_cell I9.p 1
    have q2 := blk_cell I9.p 2
    have l0 := blk_lt I9.h
    have l1 := blk_lt I9.p
    simp only [List.getElem?_toArray, List.getElem?_cons_succ, List.getElem?_cons_zero] at h0 h1 h2 h3 h4 h5 h6 h7 h8 h9 h10 h11 h12 h13 h14 h15 q0 q1 q2
    have HI := Lib.hid I9
    clear I9
    have cv := conv_at c _ 40 _ HI.out.u HI.out.n
    have HZ2 := HZ.out
    unfold txB txA at HZ2
    rw [HAC.out, HSG.out, if_pos HCE.out] at HZ2
    rw [HZ2] at cv
    clear HZ2
    go_wp2
    go_ret
    exact ⟨rfl, HI.out.g⟩
  · have c1 : (C != ac) = true := by rw [bne_iff_ne]; exact hC
    have HCE := Lib.hid hC
    clear hC
    go_upto_region 12 with fail
    go_region_held3 (fun u => u.cell? ⟨W.heap.size, 6, none⟩ = some (.int .i64 C) ∧ u.cell? ⟨W.heap.size, 4, none⟩ = some (.int .i64 D)) (go_keep)
      (first
        | (go_at_call 54; with_reducible refine (KAC.out _).mono ?_; rintro e w' ⟨rfl, rfl⟩))
    have I9 := HI.out.gb (gb_drew _ none)
    clear HI h0 h1 h2 h3 h4 h5 h6 h7 h8 h9 h10 h11 h12 h13 h14 h15 q0 q1 q2 l0 l1
    have h0 := blk_cell I9.h 0
    have h1 := blk_cell I9.h 1
    have h2 := blk_cell I9.h 2
    have h3 := blk_cell I9.h 3
    have h4 := blk_cell I9.h 4
    have h5 := blk_cell I9.h 5
    have h6 := blk_cell I9.h 6
    have h7 := blk_cell I9.h 7
    have h8 := blk_cell I9.h 8
    have h9 := blk_cell I9.h 9
    have h10 := blk_cell I9.h 10
    have h11 := blk_cell I9.h 11
    have h12 := blk_cell I9.h 12
    have h13 := blk_cell I9.h 13
    have h14 := blk_cell I9.h 14
    have h15 := blk_cell I9.h 15
    have q0 := blk_cell I9.p 0
    have q1 := blk_cell I9.p 1
    have q2 := blk_cell I9.p 2
    have l0 := blk_lt I9.h
    have l1 := blk_lt I9.p
    simp only [List.getElem?_toArray, List.getElem?_cons_succ, List.getElem?_cons_zero] at h0 h1 h2 h3 h4 h5 h6 h7 h8 h9 h10 h11 h12 h13 h14 h15 q0 q1 q2
    have HI := Lib.hid I9
    clear I9
    go_wp2_with fail
    refine (put_at c _ 40 32 4 C _ HI.out.u HI.out.n (by decide) (by decide) (by decide)).mono ?_
    rintro e w9 ⟨rfl, U9, g9⟩
    have I9 := HI.out.put U9 g9 (by rw [putL_len]; exact HI.out.n)
    clear U9 g9 HI h0 h1 h2 h3 h4 h5 h6 h7 h8 h9 h10 h11 h12 h13 h14 h15 q0 q1 q2 l0 l1
    have h0 := blk_cell I9.h 0
    have h1 := blk_cell I9.h 1
    have h2 := blk_cell I9.h 2
    have h3 := blk_cell I9.h 3
    have h4 := blk_cell I9.h 4
    have h5 := blk_cell I9.h 5
    have h6 := blk_cell I9.h 6
    have h7 := blk_cell I9.h 7
    have h8 := blk_cell I9.h 8
    have h9 := blk_cell I9.h 9
    have h10 := blk_cell I9.h 10
    have h11 := blk_cell I9.h 11
    have h12 := blk_cell I9.h 12
    have h13 := blk_cell I9.h 13
    have h14 := blk_cell I9.h 14
    have h15 := blk_cell I9.h 15
    have q0 := blk_cell I9.p 0
    have q1 := blk_cell I9.p 1
    have q2 := blk_cell I9.p 2
    have l0 := blk_lt I9.h
    have l1 := blk_lt I9.p
    simp only [List.getElem?_toArray, List.getElem?_cons_succ, List.getElem?_cons_zero] at h0 h1 h2 h3 h4 h5 h6 h7 h8 h9 h10 h11 h12 h13 h14 h15 q0 q1 q2
    have HI := Lib.hid I9
    clear I9
    have cv := conv_at c _ 40 _ HI.out.u HI.out.n
    have HZ2 := HZ.out
    unfold txB txA at HZ2
    rw [HAC.out, HSG.out, if_neg HCE.out] at HZ2
    rw [HZ2] at cv
    clear HZ2
    go_wp2
    go_ret
    exact ⟨rfl, HI.out.g⟩

end Go.Proofs.YtikjfmpdfeaooaaDoor.Dh
