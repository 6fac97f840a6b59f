/- Texts of one kind, one behind the other: Dc1, Dc0, Dc3, Dc4, Dc5, Dc2. -/
import Derived.Test.YtikjfmpdfeaooaaDoorG22
import Derived.Test.YtikjfmpdfeaooaaDoorG34
import Derived.Test.YtikjfmpdfeaooaaDoorG35
/- Layer 20, pure: the numbers that stand in a head's bytes. -/
namespace Go.Proofs.YtikjfmpdfeaooaaDoor.Dh
open Go.ChangeShapes Go.WideShapes Go.ChangeAt Go.RowKit
open Go.Proofs.YtikjfmpdfeaooaaDoor.Le Go.Proofs.YtikjfmpdfeaooaaDoor.Sr Go.Proofs.YtikjfmpdfeaooaaDoor.Ma
set_option linter.unusedVariables false

/-- A list of bytes as a text. -/
def tx (L : List UInt8) : ByteArray := ⟨L.toArray⟩
theorem bn_tx (L : List UInt8) (i : Nat) : bn (tx L) i = (L.getD i 0).toNat := by
  unfold bn tx
  rw [List.toList_toArray]
theorem putL_in (L : List UInt8) (a : Nat) (v : Int) : ∀ (n k : Nat), k < n → a + n ≤ L.length → bn (tx (putL L a v n)) (a + k) = (byI v k).toNat
  | 0, k, h, _ => absurd h (by omega)
  | n + 1, k, h, hl => by
    rw [bn_tx]
    by_cases e : k = n
    · subst e
      have hlt : a + k < (putL L a v k).length := by rw [putL_len]; omega
      rw [putL, List.getD_eq_getElem?_getD, List.getElem?_set_self hlt, Option.getD_some, UInt8.toNat_ofNat']
      have := byI_bd v k
      omega
    · rw [putL, List.getD_eq_getElem?_getD, List.getElem?_set_ne (by omega), ← List.getD_eq_getElem?_getD, ← bn_tx]
      exact putL_in L a v n k (by omega) (by omega)
theorem putL_out (L : List UInt8) (a : Nat) (v : Int) : ∀ (n i : Nat), i < a ∨ a + n ≤ i → bn (tx (putL L a v n)) i = bn (tx L) i
  | 0, i, _ => rfl
  | n + 1, i, h => by
    rw [bn_tx, putL, List.getD_eq_getElem?_getD, List.getElem?_set_ne (by omega), ← List.getD_eq_getElem?_getD, ← bn_tx]
    exact putL_out L a v n i (by omega)
theorem by4 (v : Int) : (((byI v 0).toNat + 256 * (byI v 1).toNat + 65536 * (byI v 2).toNat + 16777216 * (byI v 3).toNat : Nat) : Int) = v % 4294967296 := by
  have h0 := byI_bd v 0
  have h1 := byI_bd v 1
  have h2 := byI_bd v 2
  have h3 := byI_bd v 3
  unfold byI at *
  simp only [Nat.reduceMul, Nat.mul_zero, Nat.mul_one, Int.reducePow] at *
  omega
theorem by2 (v : Int) : (((byI v 0).toNat + 256 * (byI v 1).toNat : Nat) : Int) = v % 65536 := by
  have h0 := byI_bd v 0
  have h1 := byI_bd v 1
  unfold byI at *
  simp only [Nat.mul_zero, Nat.mul_one, Int.reducePow] at *
  omega
theorem w4_put (L : List UInt8) (a : Nat) (v : Int) (h : a + 4 ≤ L.length) : ((w4 (tx (putL L a v 4)) a : Nat) : Int) = v % 4294967296 := by
  have e0 := putL_in L a v 4 0 (by omega) h
  have e1 := putL_in L a v 4 1 (by omega) h
  have e2 := putL_in L a v 4 2 (by omega) h
  have e3 := putL_in L a v 4 3 (by omega) h
  rw [Nat.add_zero] at e0
  unfold w4
  rw [e0, e1, e2, e3]
  exact by4 v
theorem w2_put (L : List UInt8) (a : Nat) (v : Int) (h : a + 2 ≤ L.length) : ((w2 (tx (putL L a v 2)) a : Nat) : Int) = v % 65536 := by
  have e0 := putL_in L a v 2 0 (by omega) h
  have e1 := putL_in L a v 2 1 (by omega) h
  rw [Nat.add_zero] at e0
  unfold w2
  rw [e0, e1]
  exact by2 v
theorem w4_out (L : List UInt8) (a n : Nat) (v : Int) (i : Nat) (h : i + 4 ≤ a ∨ a + n ≤ i) : w4 (tx (putL L a v n)) i = w4 (tx L) i := by
  unfold w4
  rw [putL_out L a v n i (by omega), putL_out L a v n (i + 1) (by omega), putL_out L a v n (i + 2) (by omega), putL_out L a v n (i + 3) (by omega)]
theorem w2_out (L : List UInt8) (a n : Nat) (v : Int) (i : Nat) (h : i + 2 ≤ a ∨ a + n ≤ i) : w2 (tx (putL L a v n)) i = w2 (tx L) i := by
  unfold w2
  rw [putL_out L a v n i (by omega), putL_out L a v n (i + 1) (by omega)]
theorem w4_zero (N i : Nat) : w4 (tx (List.replicate N 0)) i = 0 := by
  have h : ∀ k, bn (tx (List.replicate N 0)) k = 0 := fun k => by
    rw [bn_tx, List.getD_eq_getElem?_getD, List.getElem?_replicate]
    split <;> rfl
  unfold w4
  rw [h, h, h, h]

/-- What stands in a head's bytes: of 40 bytes and more. -/
theorem txA_nums (N : Nat) (S X Y : Int) (tp : Bool) (D M : Int) (hN : 40 ≤ N) : ((w4 (tx (txA N S X Y tp D M)) 0 : Nat) : Int) = S % 4294967296 ∧ ((w4 (tx (txA N S X Y tp D M)) 4 : Nat) : Int) = X % 4294967296 ∧ ((w4 (tx (txA N S X Y tp D M)) 8 : Nat) : Int) = hV Y tp % 4294967296 ∧
    ((w2 (tx (txA N S X Y tp D M)) 12 : Nat) : Int) = 1 ∧ ((w2 (tx (txA N S X Y tp D M)) 14 : Nat) : Int) = D % 65536 ∧ ((w4 (tx (txA N S X Y tp D M)) 16 : Nat) : Int) = M % 4294967296 ∧ w4 (tx (txA N S X Y tp D M)) 32 = 0 := by
  unfold txA
  have l0 : (List.replicate N (0 : UInt8)).length = N := List.length_replicate
  refine ⟨?_, ?_, ?_, ?_, ?_, ?_, ?_⟩
  · rw [w4_out _ _ _ _ _ (by omega), w4_out _ _ _ _ _ (by omega), w4_out _ _ _ _ _ (by omega), w4_out _ _ _ _ _ (by omega), w4_out _ _ _ _ _ (by omega)]
    exact w4_put _ 0 S (by omega)
  · rw [w4_out _ _ _ _ _ (by omega), w4_out _ _ _ _ _ (by omega), w4_out _ _ _ _ _ (by omega), w4_out _ _ _ _ _ (by omega)]
    exact w4_put _ 4 X (by rw [putL_len]; omega)
  · rw [w4_out _ _ _ _ _ (by omega), w4_out _ _ _ _ _ (by omega), w4_out _ _ _ _ _ (by omega)]
    exact w4_put _ 8 _ (by rw [putL_len, putL_len]; omega)
  · rw [w2_out _ _ _ _ _ (by omega), w2_out _ _ _ _ _ (by omega)]
    have := w2_put (putL (putL (putL (List.replicate N 0) 0 S 4) 4 X 4) 8 (hV Y tp) 4) 12 1 (by rw [putL_len, putL_len, putL_len]; omega)
    omega
  · rw [w2_out _ _ _ _ _ (by omega)]
    exact w2_put _ 14 D (by rw [putL_len, putL_len, putL_len, putL_len]; omega)
  · exact w4_put _ 16 M (by rw [putL_len, putL_len, putL_len, putL_len, putL_len]; omega)
  · rw [w4_out _ _ _ _ _ (by omega), w4_out _ _ _ _ _ (by omega), w4_out _ _ _ _ _ (by omega), w4_out _ _ _ _ _ (by omega), w4_out _ _ _ _ _ (by omega), w4_out _ _ _ _ _ (by omega)]
    exact w4_zero N 32
theorem txB_nums (N : Nat) (S X Y : Int) (tp : Bool) (D M C : Int) (hN : 40 ≤ N) : ((w4 (tx (txB N S X Y tp D M C)) 0 : Nat) : Int) = S % 4294967296 ∧ ((w4 (tx (txB N S X Y tp D M C)) 4 : Nat) : Int) = X % 4294967296 ∧ ((w4 (tx (txB N S X Y tp D M C)) 8 : Nat) : Int) = hV Y tp % 4294967296 ∧
    ((w2 (tx (txB N S X Y tp D M C)) 12 : Nat) : Int) = 1 ∧ ((w2 (tx (txB N S X Y tp D M C)) 14 : Nat) : Int) = D % 65536 ∧ ((w4 (tx (txB N S X Y tp D M C)) 16 : Nat) : Int) = M % 4294967296 ∧ ((w4 (tx (txB N S X Y tp D M C)) 32 : Nat) : Int) = (if C = allC D then 0 else C % 4294967296) := by
  obtain ⟨a0, a1, a2, a3, a4, a5, a6⟩ := txA_nums N S X Y tp D M hN
  unfold txB
  by_cases h : C = allC D
  · rw [if_pos h, if_pos h]
    exact ⟨a0, a1, a2, a3, a4, a5, by rw [a6]; rfl⟩
  · rw [if_neg h, if_neg h]
    rw [w4_out _ _ _ _ _ (by omega), w4_out _ _ _ _ _ (by omega), w4_out _ _ _ _ _ (by omega), w2_out _ _ _ _ _ (by omega), w2_out _ _ _ _ _ (by omega), w4_out _ 32 4 C 16 (by omega)]
    exact ⟨a0, a1, a2, a3, a4, a5, w4_put _ 32 C (by rw [txA_len]; omega)⟩
theorem txC_nums (S X Y : Int) (tp : Bool) (D C : Int) (r0 r1 r2 : Nat) (b0 : r0 < 4294967296) (b1 : r1 < 4294967296) (b2 : r2 < 4294967296) :
    (∀ i, i + 4 ≤ 40 → w4 (tx (txC S X Y tp D C r0 r1 r2)) i = w4 (tx (txB 52 S X Y tp D 3 C)) i) ∧ (∀ i, i + 2 ≤ 40 → w2 (tx (txC S X Y tp D C r0 r1 r2)) i = w2 (tx (txB 52 S X Y tp D 3 C)) i) ∧
    w4 (tx (txC S X Y tp D C r0 r1 r2)) 40 = r0 ∧ w4 (tx (txC S X Y tp D C r0 r1 r2)) 44 = r1 ∧ w4 (tx (txC S X Y tp D C r0 r1 r2)) 48 = r2 := by
  unfold txC
  refine ⟨fun i hi => ?_, fun i hi => ?_, ?_, ?_, ?_⟩
  · rw [w4_out _ _ _ _ _ (by omega), w4_out _ _ _ _ _ (by omega), w4_out _ _ _ _ _ (by omega)]
  · rw [w2_out _ _ _ _ _ (by omega), w2_out _ _ _ _ _ (by omega), w2_out _ _ _ _ _ (by omega)]
  · rw [w4_out _ _ _ _ _ (by omega), w4_out _ _ _ _ _ (by omega)]
    have := w4_put (txB 52 S X Y tp D 3 C) 40 r0 (by rw [txB_len]; omega)
    omega
  · rw [w4_out _ _ _ _ _ (by omega)]
    have := w4_put (putL (txB 52 S X Y tp D 3 C) 40 r0 4) 44 r1 (by rw [putL_len, txB_len]; omega)
    omega
  · have := w4_put (putL (putL (txB 52 S X Y tp D 3 C) 40 r0 4) 44 r1 4) 48 r2 (by rw [putL_len, putL_len, txB_len]; omega)
    omega

end Go.Proofs.YtikjfmpdfeaooaaDoor.Dh

/- Layer 20: a head of forty bytes, told exactly. -/
namespace Go.Proofs.YtikjfmpdfeaooaaDoor.Dh
open Go.ChangeShapes Go.WideShapes Go.ChangeAt Go.RowKit
open Go.Proofs.YtikjfmpdfeaooaaDoor.Le Go.Proofs.YtikjfmpdfeaooaaDoor.Sr Go.Proofs.YtikjfmpdfeaooaaDoor.Ma
set_option linter.unusedVariables false

theorem w2_extb (s : ByteArray) (p q i : Nat) (hq : q ≤ s.size) (hi : p + i + 1 < q) : w2 (s.extract p q) i = w2 s (p + i) := by
  unfold w2
  rw [bn_ext s p q i hq (by omega), bn_ext s p q (i + 1) hq (by omega)]
  rfl
/-- A head of forty bytes, told exactly. -/
theorem good40b (T z : ByteArray) (p : Nat) (fm : Int) (x : St) (Gx : GW 3 x) (hbig : T.size ≤ 4611686018427387904) (hn4 : w4 T p = 40) (hpn : p + 40 ≤ T.size) (hz : T.extract p (p + 40) = z) (F : FstB (ckD (40 : Nat) (nW z) (nH z) (nP z) (nD z) (nM z) (nC z)) 10) (s m : Nat → Nat) (MWh : MW (nM z) (nD z) s m)
    (hw : nM z = 3 → p + 52 ≤ T.size ∧ ((w4 T (p + 40) : Nat) : Int) = (maskW (s 0) (m 0) : Nat) ∧ ((w4 T (p + 44) : Nat) : Int) = (maskW (s 1) (m 1) : Nat) ∧ ((w4 T (p + 48) : Nat) : Int) = (maskW (s 2) (m 2) : Nat) ∧ (0 : Int) = (maskW (s 3) (m 3) : Nat)) (q : Nat) (hq : q = p + (if nM z = 3 then 52 else 40)) :
    ∃ y : St, CRd T p fm x q y (.agg #[.int .i64 ((40 : Nat) : Int), .int .i64 (nW z), .int .i64 (fa (nH z)), .bool (decide (nH z < 0)), .int .i64 (nD z), .int .i64 (nM z), .int .i64 (clrC (nD z) (nC z)), .int .i64 (s 0 : Nat), .int .i64 (m 0 : Nat), .int .i64 (s 1 : Nat), .int .i64 (m 1 : Nat), .int .i64 (s 2 : Nat), .int .i64 (m 2 : Nat), .int .i64 (s 3 : Nat), .int .i64 (m 3 : Nat), .int .i64 (p : Nat)]) (flV 0 0 0) ∧
    DRd T p #[.int .i64 ((40 : Nat) : Int), .int .i64 (nW z), .int .i64 (fa (nH z)), .bool (decide (nH z < 0)), .int .i64 (nD z), .int .i64 (nM z), .int .i64 (clrC (nD z) (nC z)), .int .i64 (maskW (s 0) (m 0) : Nat), .int .i64 (maskW (s 1) (m 1) : Nat), .int .i64 (maskW (s 2) (m 2) : Nat), .int .i64 (maskW (s 3) (m 3) : Nat), .int .i64 (p : Nat), .int .i64 (q : Nat), .int .i64 0, .int .i64 0] := by
  obtain ⟨n, h40⟩ : ∃ n : Nat, n = 40 := ⟨_, rfl⟩
  rw [← h40] at hn4 hpn hz F ⊢
  have hr : rdH (n : Int) = true := by rw [h40]; decide
  have h12 : n ≠ 12 := by omega
  have hzs : z.size = n := by rw [← hz, ByteArray.size_extract]; omega
  have hn : n = 40 ∨ n = 52 ∨ n = 56 ∨ n = 108 ∨ n = 124 := by have := of_decide_eq_true hr; omega
  have G1 := Gx.step (by decide)
  have G2 := G1.step (by decide)
  have hb := nH_bd z
  have eX : sgn (w4 z 4) = nW z := by unfold nW; rw [if_neg (by omega)]
  have eY : sgn (w4 z 8) = nH z := by unfold nH; rw [if_neg (by omega)]
  have eP : ((w2 z 12 : Nat) : Int) = (nP z : Nat) := by unfold nP; rw [if_neg (by omega)]
  have eD : ((w2 z 14 : Nat) : Int) = (nD z : Nat) := by unfold nD; rw [if_neg (by omega)]
  have eM : ((w4 z 16 : Nat) : Int) = (nM z : Nat) := by unfold nM; rw [if_neg (by omega)]
  have eC : ((w4 z 32 : Nat) : Int) = (nC z : Nat) := by unfold nC; rw [if_neg (by omega)]
  have KH : ∀ (b l f : Nat) (u : World), SL b l T p f T.size x u → Calls Tryd.prog 21 #[.agg #[.pointer (some ⟨b, 0, none⟩), .int .i64 fm, .int .i64 (p : Nat)]] u fun e w' => e = .returned (.tuple #[.string z, flV 0 0 0]) ∧ SL b l T (p + n) f T.size ((x.work 1).1.work 1).1 w' ∧ Tn u w' [b, l] :=
    fun b l f u hu => by rw [← hz]; exact head_yes b l T p f T.size fm x u hu Gx.ok (Gx.rd (by decide) (by decide) (by omega)) n hn4 (rd_ot hr) hr G1.ok (G1.rd (by decide) (by omega) (by omega))
  have KN : ∀ u, Calls Tryd.prog 22 #[.string z] u fun e w' => e = .returned (.agg #[.int .i64 (n : Nat), .int .i64 (nW z), .int .i64 (nH z), .int .i64 (nP z), .int .i64 (nD z), .int .i64 (nM z), .int .i64 (nC z)]) ∧ u.grownBy w' none :=
    fun u => by have N := numbers_calls z (by omega) u; unfold nV at N; rw [hzs] at N; exact N
  have DOC : ∀ (RV MV : Array Value), (RV = if (10 : Nat) < 10 then badA (kdD 10) ((p : Int) + plD n 10) else MV) → MVis MV → (∀ u, Calls Tryd.prog 35 #[.string T, .agg #[.int .i64 (n : Nat), .int .i64 (nW z), .int .i64 (fa (nH z)), .bool (decide (nH z < 0)), .int .i64 (nD z), .int .i64 (nM z), .int .i64 (clrC (nD z) (nC z)), .int .i64 0, .int .i64 0, .int .i64 0, .int .i64 0, .int .i64 (p : Nat), .int .i64 ((p + n : Nat)), .int .i64 0, .int .i64 0], .int .i64 (T.size : Nat)] u fun e w' => e = .returned (.agg MV) ∧ u.grownBy w' none) → DRd T p RV :=
    fun RV MV hR hMV KM W => rlong_any n hn T z p T.size 10 (nW z) (nH z) (nP z) (nD z) (nM z) (nC z) RV MV W ⟨F, h12, by omega, by omega, by omega, by omega, by omega, hR⟩ hz hpn (Nat.le_refl _) (by omega) hn4 eX eY eP eD eM eC KM hMV
  have hK : ¬ (10 : Nat) < 10 := by decide
  have KW : ∀ u, Calls Tryd.prog 23 #[.agg #[.int .i64 (n : Nat), .int .i64 (nW z), .int .i64 (nH z), .int .i64 (nP z), .int .i64 (nD z), .int .i64 (nM z), .int .i64 (nC z)]] u fun e w' => e = .returned (.tuple #[.int .i64 0, .int .i64 0]) ∧ u.grownBy w' none :=
    fun u => wrong_calls _ _ _ _ _ _ _ 10 u (by omega) (by omega) F
  by_cases h3 : nM z = 3
  · obtain ⟨hs, e0, e1, e2, e3⟩ := hw h3
    have KF := MWh.three (by rw [h3]; rfl)
    rw [h3, if_pos rfl] at hq
    subst hq
    subst h40
    obtain ⟨zb, hzb⟩ : ∃ zb, T.extract (p + 40) (p + 40 + 12) = zb := ⟨_, rfl⟩
    have hcat : z ++ zb = T.extract p (p + 52) := by
      rw [← hz, ← hzb]
      apply ByteArray.ext
      apply Array.toList_inj.1
      have e1 : (T.extract p (p + 52)).data.toList = (T.data.toList.drop p).take 52 := by rw [Lib.extract_data, Nat.add_sub_cancel_left]
      have e2 : (T.extract p (p + 40)).data.toList = (T.data.toList.drop p).take 40 := by rw [Lib.extract_data, Nat.add_sub_cancel_left]
      have e3 : (T.extract (p + 40) (p + 40 + 12)).data.toList = ((T.data.toList.drop p).drop 40).take 12 := by rw [Lib.extract_data, List.drop_drop, Nat.add_sub_cancel_left]
      rw [ByteArray.data_append, Array.toList_append, e1, e2, e3, ← List.take_add]
    have rd : rdB ((x.work 1).1.work 1).1 (p + 40) T.size 12 = true := G2.rd (by decide) (by decide) (by omega)
    have f0 : ((w4 (z ++ zb) 40 : Nat) : Int) = (maskW (s 0) (m 0) : Nat) := by rw [← e0, hcat, w4_ext T p (p + 52) 40 (by omega) (by omega)]
    have f1 : ((w4 (z ++ zb) 44 : Nat) : Int) = (maskW (s 1) (m 1) : Nat) := by rw [← e1, hcat, w4_ext T p (p + 52) 44 (by omega) (by omega)]
    have f2 : ((w4 (z ++ zb) 48 : Nat) : Int) = (maskW (s 2) (m 2) : Nat) := by rw [← e2, hcat, w4_ext T p (p + 52) 48 (by omega) (by omega)]
    refine ⟨(((x.work 1).1.work 1).1.work 1).1, fun b l f W h hT h1 h2 => ?_, DOC _ _ (by rw [if_neg hK]) ⟨_, _, _, _, _, _, _, _, _, _, _, _, _, _, _, rfl⟩ (fun u => by
      rw [h3]
      exact rmasks_40_good T (nW z) (fa (nH z)) (nD z) (clrC (nD z) (nC z)) (decide (nH z < 0)) p T.size ((p + 40 : Nat) : Int) u (by omega) (by omega) trivial (by omega) _ _ _ _ e0 e1 e2 e3 _ KF)⟩
    exact read_good b l T p f T.size fm x W h z (40 : Nat) (nW z) (nH z) (nP z) (nD z) (nM z) (nC z) _ _ _ _ _ _ _ _ (by omega) (p + 40) (p + 52) ((x.work 1).1.work 1).1 (((x.work 1).1.work 1).1.work 1).1 (fun u hu => KH b l f u hu) KN KW
      (fun u hu ht => by
        rw [h3]
        exact cmasks_40_good b l T z p (p + 40) f T.size fm (nW z) (nH z) (nP z) (nD z) (nC z) _ u hu (Tab.tn hT ht (by simp [h1, h2])) h1 h2 G2.ok rd hzs zb hzb _ _ _ _ _ _ _ _ _ _ _ _ f0 f1 f2 e3 KF)
  · obtain ⟨c0, c1, c2, c3, c4, c5, c6, c7, w0, w1, w2, w3⟩ := MWh.other (by omega)
    rw [if_neg h3] at hq
    have hq : q = p + n := by omega
    subst hq
    refine ⟨((x.work 1).1.work 1).1, fun b l f W h hT h1 h2 => ?_, ?_⟩
    · have R := read_plain b l T p f T.size fm x W h Gx.ok (Gx.rd (by decide) (by decide) (by omega)) n hn4 hr G1.ok (G1.rd (by decide) (by omega) (by omega)) z hz h3 (by rw [hzs]; exact F)
      unfold headV at R
      rw [hzs, c0, c1, c2, c3, c4, c5, c6, c7] at R
      exact R
    · refine DOC _ _ (by rw [if_neg hK]) ⟨_, _, _, _, _, _, _, _, _, _, _, _, _, _, _, rfl⟩ (fun u => ?_)
      rw [← w0, ← w1, ← w2, ← w3]
      exact rmasks_none T _ _ _ _ _ _ _ p T.size _ u (by omega)

end Go.Proofs.YtikjfmpdfeaooaaDoor.Dh

/- Layer 20: the bytes of a head that was read are read as it was. -/
namespace Go.Proofs.YtikjfmpdfeaooaaDoor.Dh
open Go.ChangeShapes Go.WideShapes Go.ChangeAt Go.RowKit
open Go.Proofs.YtikjfmpdfeaooaaDoor.Le Go.Proofs.YtikjfmpdfeaooaaDoor.Sr Go.Proofs.YtikjfmpdfeaooaaDoor.Ma
set_option linter.unusedVariables false

/-- With the numbers of a head that was read nothing is wrong. -/
theorem good_first {X Y D M C : Int} {tp : Bool} (g : GH 40 X Y D M C) (hpk : M = 1 ∨ M = 2 → tp = false) : FstB (ckD ((40 : Nat) : Int) X (if tp = true then -Y else Y) 1 D M (if C = allC D then 0 else C)) 10 := by
  have x1 := g.x1
  have x2 := g.x2
  have y1 := g.y1
  have y2 := g.y2
  have d := g.d
  have m1 := g.m1
  have m2 := g.m2
  have c1 := g.c1
  have c2 := g.c2
  have c8 := g.c8
  have hfa : fa (if tp = true then -Y else Y) = Y := by unfold fa; split <;> split <;> omega
  refine ⟨Nat.le_refl _, fun h => absurd h (by decide), fun j hj => ?_⟩
  obtain rfl | rfl | rfl | rfl | rfl | rfl | rfl | rfl | rfl | rfl : j = 0 ∨ j = 1 ∨ j = 2 ∨ j = 3 ∨ j = 4 ∨ j = 5 ∨ j = 6 ∨ j = 7 ∨ j = 8 ∨ j = 9 := by omega
  · exact decide_eq_false (by omega)
  · exact decide_eq_false (by omega)
  · show ((if tp = true then -Y else Y) == 0) = false
    rw [beq_eq_false_iff_ne]
    split <;> omega
  · show decide (16384 < fa (if tp = true then -Y else Y)) = false
    rw [hfa]
    exact decide_eq_false (by omega)
  · rfl
  · show (!(dpH D ((40 : Nat) : Int))) = false
    rw [show dpH D ((40 : Nat) : Int) = true from decide_eq_true (by omega)]
    rfl
  · exact decide_eq_false (by omega)
  · show (!(ftH M D)) = false
    have h8 := g.p8
    have h4 := g.p4
    have h3 := g.d3
    rw [show ftH M D = true from decide_eq_true (by omega)]
    rfl
  · show (pkH M && decide ((if tp = true then -Y else Y) < 0)) = false
    by_cases hp : M = 1 ∨ M = 2
    · rw [hpk hp]
      rw [show decide ((if false = true then -Y else Y) < 0) = false from decide_eq_false (by simp; omega)]
      exact Bool.and_false _
    · rw [show pkH M = false from decide_eq_false hp]
      rfl
  · have hcc : (if C = allC D then (0 : Int) else C) ≤ C := by split <;> omega
    have hm : C ≤ mstC D := by
      rcases d with rfl | rfl | rfl | rfl | rfl | rfl
      · exact (c8 (.inl rfl)).2
      · exact (c8 (.inr (.inl rfl))).2
      · exact (c8 (.inr (.inr rfl))).2
      · exact c2
      · exact c2
      · exact c2
    show decide (mstC D < (if C = allC D then 0 else C)) = false
    exact decide_eq_false (by omega)
theorem clr_back {X Y D M C : Int} (g : GH 40 X Y D M C) : clrC D (if C = allC D then 0 else C) = C := by
  have d := g.d
  have c1 := g.c1
  have c8 := g.c8
  unfold clrC
  by_cases h : C = allC D
  · rw [if_pos h, if_pos rfl, h]
  · rw [if_neg h]
    by_cases h0 : C = 0
    · rw [if_pos h0]
      by_cases h2 : D = 1 ∨ D = 4 ∨ D = 8
      · have := c8 h2; omega
      · unfold allC at h ⊢
        rw [if_neg (by omega), if_neg (by omega), if_neg (by omega)] at h ⊢
        omega
    · rw [if_neg h0]

theorem back_nums (B z : ByteArray) (hB : 40 ≤ B.size) (hz : B.extract 0 (0 + 40) = z) {X Y D M C : Int} {tp : Bool} (g : GH 40 X Y D M C)
    (e4 : ((w4 B 4 : Nat) : Int) = X % 4294967296) (e8 : ((w4 B 8 : Nat) : Int) = hV Y tp % 4294967296) (e12 : ((w2 B 12 : Nat) : Int) = 1) (e14 : ((w2 B 14 : Nat) : Int) = D % 65536) (e16 : ((w4 B 16 : Nat) : Int) = M % 4294967296) (e32 : ((w4 B 32 : Nat) : Int) = (if C = allC D then 0 else C % 4294967296)) :
    z.size = 40 ∧ nW z = X ∧ nH z = (if tp = true then -Y else Y) ∧ ((nP z : Nat) : Int) = 1 ∧ ((nD z : Nat) : Int) = D ∧ ((nM z : Nat) : Int) = M ∧ ((nC z : Nat) : Int) = (if C = allC D then 0 else C) := by
  have x1 := g.x1
  have x2 := g.x2
  have y1 := g.y1
  have y2 := g.y2
  have d := g.d
  have m1 := g.m1
  have m2 := g.m2
  have c1 := g.c1
  have c2 := g.c2
  have hzs : z.size = 40 := by rw [← hz, ByteArray.size_extract]; omega
  have f4 : w4 z 4 = w4 B 4 := by rw [← hz, w4_ext B 0 (0 + 40) 4 (by omega) (by omega)]
  have f8 : w4 z 8 = w4 B 8 := by rw [← hz, w4_ext B 0 (0 + 40) 8 (by omega) (by omega)]
  have f12 : w2 z 12 = w2 B 12 := by rw [← hz, w2_extb B 0 (0 + 40) 12 (by omega) (by omega)]
  have f14 : w2 z 14 = w2 B 14 := by rw [← hz, w2_extb B 0 (0 + 40) 14 (by omega) (by omega)]
  have f16 : w4 z 16 = w4 B 16 := by rw [← hz, w4_ext B 0 (0 + 40) 16 (by omega) (by omega)]
  have f32 : w4 z 32 = w4 B 32 := by rw [← hz, w4_ext B 0 (0 + 40) 32 (by omega) (by omega)]
  refine ⟨hzs, ?_, ?_, ?_, ?_, ?_, ?_⟩
  · unfold nW
    rw [if_neg (by omega), f4]
    unfold sgn
    split <;> omega
  · unfold nH
    rw [if_neg (by omega), f8]
    unfold hV at e8
    cases tp with
    | true =>
      rw [if_pos rfl] at e8 ⊢
      rw [IntWalk.i64_in _ (by omega)] at e8
      unfold sgn
      split <;> omega
    | false =>
      rw [if_neg (by decide)] at e8 ⊢
      unfold sgn
      split <;> omega
  · unfold nP
    rw [if_neg (by omega), f12]
    exact e12
  · unfold nD
    rw [if_neg (by omega), f14]
    omega
  · unfold nM
    rw [if_neg (by omega), f16]
    omega
  · unfold nC
    rw [if_neg (by omega), f32, e32]
    split <;> omega

theorem back_read (B : ByteArray) (hB : 40 ≤ B.size ∧ B.size ≤ 1000) {X Y D M C : Int} {tp : Bool} (g : GH 40 X Y D M C) (hpk : M = 1 ∨ M = 2 → tp = false) (s n : Nat → Nat) (MWh : MW M D s n)
    (e0 : ((w4 B 0 : Nat) : Int) = 40) (e4 : ((w4 B 4 : Nat) : Int) = X % 4294967296) (e8 : ((w4 B 8 : Nat) : Int) = hV Y tp % 4294967296) (e12 : ((w2 B 12 : Nat) : Int) = 1) (e14 : ((w2 B 14 : Nat) : Int) = D % 65536) (e16 : ((w4 B 16 : Nat) : Int) = M % 4294967296) (e32 : ((w4 B 32 : Nat) : Int) = (if C = allC D then 0 else C % 4294967296))
    (hs : B.size = if M = 3 then 52 else 40) (hw : M = 3 → ((w4 B 40 : Nat) : Int) = (maskW (s 0) (n 0) : Nat) ∧ ((w4 B 44 : Nat) : Int) = (maskW (s 1) (n 1) : Nat) ∧ ((w4 B 48 : Nat) : Int) = (maskW (s 2) (n 2) : Nat) ∧ (0 : Int) = (maskW (s 3) (n 3) : Nat)) :
    ∃ y, CRd B 0 0 (LW 3 0) B.size y (.agg #[.int .i64 40, .int .i64 X, .int .i64 Y, .bool tp, .int .i64 D, .int .i64 M, .int .i64 C, .int .i64 (s 0 : Nat), .int .i64 (n 0 : Nat), .int .i64 (s 1 : Nat), .int .i64 (n 1 : Nat), .int .i64 (s 2 : Nat), .int .i64 (n 2 : Nat), .int .i64 (s 3 : Nat), .int .i64 (n 3 : Nat), .int .i64 ((0 : Nat) : Int)]) (flV 0 0 0) ∧ DRd B 0 #[.int .i64 40, .int .i64 X, .int .i64 Y, .bool tp, .int .i64 D, .int .i64 M, .int .i64 C, .int .i64 (maskW (s 0) (n 0) : Nat), .int .i64 (maskW (s 1) (n 1) : Nat), .int .i64 (maskW (s 2) (n 2) : Nat), .int .i64 (maskW (s 3) (n 3) : Nat), .int .i64 ((0 : Nat) : Int), .int .i64 (B.size : Nat), .int .i64 0, .int .i64 0] := by
  obtain ⟨z, hz⟩ : ∃ z, B.extract 0 (0 + 40) = z := ⟨_, rfl⟩
  obtain ⟨hzs, a1, a2, a3, a4, a5, a6⟩ := back_nums B z hB.1 hz g e4 e8 e12 e14 e16 e32
  have hY : fa (if tp = true then -Y else Y) = Y := by have := g.y1; unfold fa; split <;> split <;> omega
  have hT : decide ((if tp = true then -Y else Y) < 0) = tp := by
    have := g.y1
    cases tp with
    | true => exact decide_eq_true (by rw [if_pos rfl]; omega)
    | false => exact decide_eq_false (by rw [if_neg (by decide)]; omega)
  have hC := clr_back g
  have F := good_first g hpk
  have R := good40b B z 0 0 (LW 3 0) (GW.lw (by decide) (by decide) (by decide) (by decide)) (by omega) (by omega) (by omega) hz (by rw [a1, a2, a3, a4, a5, a6]; exact F) s n (by rw [a4, a5]; exact MWh)
    (fun h => by
      have h3 : M = 3 := by omega
      obtain ⟨w0, w1, w2, w3⟩ := hw h3
      rw [h3, if_pos rfl] at hs
      exact ⟨by omega, w0, w1, w2, w3⟩) B.size (by
      rw [hs]
      by_cases h3 : M = 3
      · rw [if_pos h3, if_pos (by omega)]
      · rw [if_neg h3, if_neg (by omega)])
  rw [a1, a2, a4, a5, a6, hY, hT, hC] at R
  exact R

end Go.Proofs.YtikjfmpdfeaooaaDoor.Dh

/- Layer 20: the law DibheadBack, its last test (written by wip/gen/dbk.py). -/
namespace Go.Proofs.YtikjfmpdfeaooaaDoor.Dh
open Go.ChangeShapes Go.WideShapes Go.ChangeAt Go.RowKit
open Go.Proofs.YtikjfmpdfeaooaaDoor.Le Go.Proofs.YtikjfmpdfeaooaaDoor.Sr Go.Proofs.YtikjfmpdfeaooaaDoor.Ma
set_option linter.unusedVariables false

/-- What is held of a world, said so that the walk takes it for a fact. -/
def At2 (P : World → Prop) (u : World) : Prop := P u
noncomputable def bdK : Code := (Tryd.f5).body.getD .skip

set_option maxRecDepth 100000 in
set_option maxHeartbeats 4000000 in
theorem ktail (W : World) (X Y : Int) (tp : Bool) (D M C v0 v1 v2 v3 v4 v5 v6 v7 m0 m1 m2 m3 q : Int) (B : ByteArray) (hq0 : ((B.size : Nat) : Int) = q) (hb : Nat) (w6 : World) (A6 : w6.heap[hb]? = some (.cells #[.int .i64 40, .int .i64 X, .int .i64 Y, .bool tp, .int .i64 D, .int .i64 M, .int .i64 C, .int .i64 v0, .int .i64 v1, .int .i64 v2, .int .i64 v3, .int .i64 v4, .int .i64 v5, .int .i64 v6, .int .i64 v7, .int .i64 0] 31 (0, 0))) (F6 : w6.heap[hb + 1]? = some (.cells #[.int .i64 0, .int .i64 0, .int .i64 0] 33 (0, 0))) (G6 : W.grownBy w6 none) (KD0 : ∀ u, Calls Tryd.prog 11 #[.string B, .int .i64 0, .int .i64 q] u fun e w' => e = .returned (.agg #[.int .i64 40, .int .i64 X, .int .i64 Y, .bool tp, .int .i64 D, .int .i64 M, .int .i64 C, .int .i64 m0, .int .i64 m1, .int .i64 m2, .int .i64 m3, .int .i64 0, .int .i64 q, .int .i64 0, .int .i64 0]) ∧ u.grownBy w' none) (KS0 : ∀ u, Calls Tryd.prog 12 #[.agg #[.int .i64 40, .int .i64 X, .int .i64 Y, .bool tp, .int .i64 D, .int .i64 M, .int .i64 C, .int .i64 v0, .int .i64 v1, .int .i64 v2, .int .i64 v3, .int .i64 v4, .int .i64 v5, .int .i64 v6, .int .i64 v7, .int .i64 0], .agg #[.int .i64 40, .int .i64 X, .int .i64 Y, .bool tp, .int .i64 D, .int .i64 M, .int .i64 C, .int .i64 m0, .int .i64 m1, .int .i64 m2, .int .i64 m3, .int .i64 0, .int .i64 q, .int .i64 0, .int .i64 0]] u fun e w' => e = .returned (.bool true) ∧ u.grownBy w' none) (KA0 : ∀ u, Calls Tryd.prog 7 #[] u fun e w' => e = .returned (.bool true) ∧ u.grownBy w' none)
    (u0 u1 u3 u4 u9 u10 u11 u12 u13 u14 u15 u16 u17 u18 u19 u20 u21 u22 u23 u24 u25 u26 u27 u28 u29 u30 u31 u32 u33 u34 u35 u36 u37 u38 u39 u40 u41 u42 u43 u44 u45 u46 u47 u48 u49 u50 u51 u52 u53 u54 u55 u56 u57 u58 u59 u60 u61 u62 u63 u64 u65 u66 : Value) (K1 : Act → World → Prop) (k1 : ∀ a w, Code.wp Tryd.prog (tl7 (tl7 (tl7 (tl7 (tl7 (tl7 (tl7 (tl7 bdK)))))))) (bodyPost Tryd.prog Tryd.f5 (fun e w' => e = .returned (.bool true) ∧ W.grownBy w' none)) a w → K1 a w) :
    Code.wp Tryd.prog (hd7 (tl7 (tl7 (tl7 (tl7 (tl7 (tl7 (tl7 bdK)))))))) (Exit.then K1 (bodyPost Tryd.prog Tryd.f5 (fun e w' => e = .returned (.bool true) ∧ W.grownBy w' none))) { tmps := #[u0, u1, .bool false, u3, u4, .pointer (some ⟨hb, 0, none⟩), .pointer (some ⟨hb + 1, 0, none⟩), .string B, .int .i64 0, u9, u10, u11, u12, u13, u14, u15, u16, u17, u18, u19, u20, u21, u22, u23, u24, u25, u26, u27, u28, u29, u30, u31, u32, u33, u34, u35, u36, u37, u38, u39, u40, u41, u42, u43, u44, u45, u46, u47, u48, u49, u50, u51, u52, u53, u54, u55, u56, u57, u58, u59, u60, u61, u62, u63, u64, u65, u66], defers := [] } w6 := by
  have KA := Lib.hid KA0
  have KD := Lib.hid KD0
  clear KA0 KD0
  conv => arg 2; whnf
  conv at k1 => enter [a, w, 1, 2]; whnf
  obtain ⟨P, hP⟩ : ∃ P : World → Prop, P = (fun u => u.heap[hb]? = some (.cells #[.int .i64 40, .int .i64 X, .int .i64 Y, .bool tp, .int .i64 D, .int .i64 M, .int .i64 C, .int .i64 v0, .int .i64 v1, .int .i64 v2, .int .i64 v3, .int .i64 v4, .int .i64 v5, .int .i64 v6, .int .i64 v7, .int .i64 0] 31 (0, 0)) ∧ u.heap[hb + 1]? = some (.cells #[.int .i64 0, .int .i64 0, .int .i64 0] 33 (0, 0))) := ⟨_, rfl⟩
  have PG : ∀ u u' : World, At2 P u → u.grownBy u' none → At2 P u' := by
    unfold At2
    rw [hP]
    rintro u u' ⟨h1, h2⟩ g
    exact ⟨old0 g h1 (blk_lt h1) (by simp), old0 g h2 (blk_lt h2) (by simp)⟩
  have p6 : At2 P w6 := by unfold At2; rw [hP]; exact ⟨A6, F6⟩
  have LH : ∀ u : World, At2 P u → u.rangeAt hb 0 [.int .i64 40, .int .i64 X, .int .i64 Y, .bool tp, .int .i64 D, .int .i64 M, .int .i64 C, .int .i64 v0, .int .i64 v1, .int .i64 v2, .int .i64 v3, .int .i64 v4, .int .i64 v5, .int .i64 v6, .int .i64 v7, .int .i64 0] := fun u h => by
    unfold At2 at h
    rw [hP] at h
    have hr := World.rangeAt_of_block h.1 0 16
    intro j v hv
    exact hr j v (by rw [← hv]; rfl)
  have cf0 : ∀ u : World, At2 P u → u.cell? ⟨hb + 1, 0, none⟩ = some (.int .i64 0) := fun u h => by unfold At2 at h; rw [hP] at h; exact blk_cell h.2 0
  have cf1 : ∀ u : World, At2 P u → u.cell? ⟨hb + 1, 1, none⟩ = some (.int .i64 0) := fun u h => by unfold At2 at h; rw [hP] at h; exact blk_cell h.2 1
  have cf2 : ∀ u : World, At2 P u → u.cell? ⟨hb + 1, 2, none⟩ = some (.int .i64 0) := fun u h => by unfold At2 at h; rw [hP] at h; exact blk_cell h.2 2
  have KS := KS0
  obtain ⟨HL, hHL⟩ : ∃ L : List Value, [.int .i64 40, .int .i64 X, .int .i64 Y, .bool tp, .int .i64 D, .int .i64 M, .int .i64 C, .int .i64 v0, .int .i64 v1, .int .i64 v2, .int .i64 v3, .int .i64 v4, .int .i64 v5, .int .i64 v6, .int .i64 v7, .int .i64 0] = L := ⟨_, rfl⟩
  have hH16 : HL.length = 16 := by rw [← hHL]; rfl
  simp only [hHL] at LH KS
  have KS := Lib.hid KS
  have uH := Tryd.underlying31
  have iH : (Tryd.prog.info? 31).map (·.size) = some HL.length := by rw [hH16]; kernel_rfl
  have UH := Lib.hid (And.intro uH iH)
  have HLH := Lib.hid LH
  clear hHL hH16 uH iH LH KS0
  have FD : ∀ w : World, (Instr.field 37 (.agg #[.int .i64 40, .int .i64 X, .int .i64 Y, .bool tp, .int .i64 D, .int .i64 M, .int .i64 C, .int .i64 m0, .int .i64 m1, .int .i64 m2, .int .i64 m3, .int .i64 0, .int .i64 q, .int .i64 0, .int .i64 0]) 13).run Tryd.prog w = .ok (.int .i64 0) w := fun w => by kernel_rfl
  have HG6 := Lib.hid G6
  have HPG := Lib.hid PG
  have p0 : At2 P w6.drew := PG _ _ p6 (gb_drew _ _)
  clear A6 F6 G6 hP PG
  refine wp_region_held_drew (S := fun u => At2 P u) (by kernel_rfl) ?_ (fun hHeld => ?_)
  · first | exact trivial | go_keep
  refine wpAnyH_take (i := 0) (oi := { dst := some 41, op := Go.Op.load 33 (Go.Operand.tmp 6), type := 33, pos := "law.go:81", after := #[], guard := none }) (v := ?v0_1) rfl (by kernel_rfl) (by kernel_rfl) (by kernel_rfl) (fun _ _ _ h => h) (Or.inl ⟨by rfl, ?hy0_1⟩) (by assumption) ?rest0_1
  case hy0_1 =>
    intro w' hSw
    try dsimp only at hSw
    go_simp
    try with_reducible rfl
  try simp only [Act.put, List.setIfInBounds_toArray, List.set_cons_zero, List.set_cons_succ]
  refine wpAnyH_take (i := 1) (oi := { dst := some 42, op := Go.Op.build 33 #[], type := 33, pos := "law.go:81", after := #[], guard := none }) (v := ?v1_2) rfl (by kernel_rfl) (by kernel_rfl) (by kernel_rfl) (fun _ _ _ h => h) (Or.inl ⟨by rfl, ?hy1_2⟩) (by assumption) ?rest1_2
  case hy1_2 =>
    intro w' hSw
    try dsimp only at hSw
    go_simp
    try with_reducible rfl
  try simp only [Act.put, List.setIfInBounds_toArray, List.set_cons_zero, List.set_cons_succ]
  refine wpAnyH_take (i := 2) (oi := { dst := some 43, op := Go.Op.binOp Go.BinOp.eql 33 (Go.Operand.tmp 41) (Go.Operand.tmp 42) 33, type := 4, pos := "law.go:81", after := #[{ on := 0, ground := Go.Ground.data }, { on := 1, ground := Go.Ground.data }], guard := none }) (v := ?v2_3) rfl (by kernel_rfl) (by kernel_rfl) (by kernel_rfl) (fun _ _ _ h => h) (Or.inl ⟨by rfl, ?hy2_3⟩) (by assumption) ?rest2_3
  case hy2_3 =>
    intro w' hSw
    try dsimp only at hSw
    go_simp
    try with_reducible rfl
  try simp only [Act.put, List.setIfInBounds_toArray, List.set_cons_zero, List.set_cons_succ]
  refine wpAnyH_take (i := 3) (oi := { dst := some 44, op := Go.Op.move (Go.Operand.tmp 43), type := 4, pos := "law.go:81", after := #[{ on := 2, ground := Go.Ground.data }], guard := none }) (v := ?v3_4) rfl (by kernel_rfl) (by kernel_rfl) (by kernel_rfl) (fun _ _ _ h => h) (Or.inl ⟨by rfl, ?hy3_4⟩) (by assumption) ?rest3_4
  case hy3_4 =>
    intro w' hSw
    try dsimp only at hSw
    go_simp
    try with_reducible rfl
  try simp only [Act.put, List.setIfInBounds_toArray, List.set_cons_zero, List.set_cons_succ]
  refine wpAnyH_take (i := 4) (oi := { dst := some 45, op := Go.Op.move (Go.Operand.tmp 8), type := 43, pos := "law.go:81", after := #[{ on := 3, ground := Go.Ground.guard }], guard := some (3, true) }) (v := ?v4_5) rfl (by kernel_rfl) (by kernel_rfl) (by kernel_rfl) (fun _ _ _ h => h) (Or.inl ⟨by rfl, ?hy4_5⟩) (by assumption) ?rest4_5
  case hy4_5 =>
    intro w' hSw
    try dsimp only at hSw
    go_simp
    try with_reducible rfl
  try simp only [Act.put, List.setIfInBounds_toArray, List.set_cons_zero, List.set_cons_succ]
  refine wpAnyH_take (i := 5) (oi := { dst := some 46, op := Go.Op.binOp Go.BinOp.eql 43 (Go.Operand.tmp 45) (Go.Operand.const (Go.Value.int Go.IntKind.i64 0)) 43, type := 4, pos := "law.go:81", after := #[{ on := 4, ground := Go.Ground.data }, { on := 3, ground := Go.Ground.guard }], guard := some (3, true) }) (v := ?v5_6) rfl (by kernel_rfl) (by kernel_rfl) (by kernel_rfl) (fun _ _ _ h => h) (Or.inl ⟨by rfl, ?hy5_6⟩) (by assumption) ?rest5_6
  case hy5_6 =>
    intro w' hSw
    try dsimp only at hSw
    go_simp
    try with_reducible rfl
  try simp only [Act.put, List.setIfInBounds_toArray, List.set_cons_zero, List.set_cons_succ]
  refine wpAnyH_take (i := 6) (oi := { dst := some 47, op := Go.Op.pick (Go.Operand.tmp 44) (Go.Operand.tmp 46) (Go.Operand.const (Go.Value.bool false)), type := 4, pos := "law.go:81", after := #[{ on := 3, ground := Go.Ground.data }, { on := 5, ground := Go.Ground.data }], guard := none }) (v := ?v6_7) rfl (by kernel_rfl) (by kernel_rfl) (by kernel_rfl) (fun _ _ _ h => h) (Or.inl ⟨by rfl, ?hy6_7⟩) (by assumption) ?rest6_7
  case hy6_7 =>
    intro w' hSw
    try dsimp only at hSw
    go_simp
    try with_reducible rfl
  try simp only [Act.put, List.setIfInBounds_toArray, List.set_cons_zero, List.set_cons_succ]
  refine wpAnyH_take (i := 7) (oi := { dst := some 48, op := Go.Op.move (Go.Operand.tmp 47), type := 4, pos := "law.go:81", after := #[{ on := 6, ground := Go.Ground.data }, { on := 3, ground := Go.Ground.chain }], guard := none }) (v := ?v7_8) rfl (by kernel_rfl) (by kernel_rfl) (by kernel_rfl) (fun _ _ _ h => h) (Or.inl ⟨by rfl, ?hy7_8⟩) (by assumption) ?rest7_8
  case hy7_8 =>
    intro w' hSw
    try dsimp only at hSw
    go_simp
    try with_reducible rfl
  try simp only [Act.put, List.setIfInBounds_toArray, List.set_cons_zero, List.set_cons_succ]
  refine wpAnyH_take (i := 8) (oi := { dst := some 49, op := Go.Op.move (Go.Operand.tmp 7), type := 9, pos := "law.go:81", after := #[{ on := 7, ground := Go.Ground.guard }], guard := some (7, true) }) (v := ?v8_9) rfl (by kernel_rfl) (by kernel_rfl) (by kernel_rfl) (fun _ _ _ h => h) (Or.inl ⟨by rfl, ?hy8_9⟩) (by assumption) ?rest8_9
  case hy8_9 =>
    intro w' hSw
    try dsimp only at hSw
    go_simp
    try with_reducible rfl
  try simp only [Act.put, List.setIfInBounds_toArray, List.set_cons_zero, List.set_cons_succ]
  refine wpAnyH_take (i := 9) (oi := { dst := some 50, op := Go.Op.move (Go.Operand.tmp 7), type := 9, pos := "law.go:81", after := #[{ on := 7, ground := Go.Ground.guard }], guard := some (7, true) }) (v := ?v9_10) rfl (by kernel_rfl) (by kernel_rfl) (by kernel_rfl) (fun _ _ _ h => h) (Or.inl ⟨by rfl, ?hy9_10⟩) (by assumption) ?rest9_10
  case hy9_10 =>
    intro w' hSw
    try dsimp only at hSw
    go_simp
    try with_reducible rfl
  try simp only [Act.put, List.setIfInBounds_toArray, List.set_cons_zero, List.set_cons_succ]
  refine wpAnyH_ready (rs := [10]) (by kernel_rfl) (by simp) ?_
  refine AllReadyH.cons (o := { dst := some 51, op := Go.Op.call { callee := Go.Callee.builtin Go.Builtin.len, args := #[Go.Operand.tmp 50], argTypes := #[9] }, type := 3, pos := "law.go:81", after := #[{ on := 9, ground := Go.Ground.data }, { on := 7, ground := Go.Ground.guard }], guard := some (7, true) }) rfl (fun K hK => ?_) AllReadyH.nil
  go_simp
  refine hK.out _ _ ?_ (fun hHeld2 => ?_)
  · first | assumption | go_keep
  clear hHeld
  have hHeld := hHeld2
  clear hK K hHeld2
  try simp only [Act.put, List.setIfInBounds_toArray, List.set_cons_zero, List.set_cons_succ]
  refine wpAnyH_ready (rs := [11]) (by kernel_rfl) (by simp) ?_
  refine AllReadyH.cons (o := { dst := some 52, op := Go.Op.call { callee := Go.Callee.value (Go.Operand.func 11), args := #[Go.Operand.tmp 49, Go.Operand.const (Go.Value.int Go.IntKind.i64 0), Go.Operand.tmp 51], argTypes := #[9, 3, 3] }, type := 37, pos := "law.go:81", after := #[{ on := 8, ground := Go.Ground.data }, { on := 10, ground := Go.Ground.data }, { on := 7, ground := Go.Ground.chain }, { on := 7, ground := Go.Ground.guard }], guard := some (7, true) }) rfl (fun K hK => ?_) AllReadyH.nil
  go_simp
  refine (KD.out _).mono ?_
  rintro e x1 ⟨rfl, gx⟩
  have G1 := Lib.hid (show w6.drew.grownBy x1 none from gx)
  clear gx
  have p_1 := HPG.out _ _ p0 G1.out
  go_wp2_with fail
  refine hK.out _ _ ?_ (fun hHeld2 => ?_)
  · first | assumption | go_keep
  clear hHeld
  have hHeld := hHeld2
  clear hK K hHeld2
  try simp only [Act.put, List.setIfInBounds_toArray, List.set_cons_zero, List.set_cons_succ]
  refine wpAnyH_take (i := 12) (oi := { dst := some 53, op := Go.Op.field 37 (Go.Operand.tmp 52) 13, type := 3, pos := "law.go:81", after := #[{ on := 11, ground := Go.Ground.data }, { on := 7, ground := Go.Ground.guard }], guard := some (7, true) }) (v := ?v12_11) rfl (by kernel_rfl) (by kernel_rfl) (by kernel_rfl) (fun _ _ _ h => h) (Or.inl ⟨by rfl, ?hy12_11⟩) (by assumption) ?rest12_11
  case hy12_11 =>
    intro w' hSw
    try dsimp only at hSw
    go_simp
    try with_reducible rfl
  try simp only [Act.put, List.setIfInBounds_toArray, List.set_cons_zero, List.set_cons_succ]
  refine wpAnyH_take (i := 13) (oi := { dst := some 54, op := Go.Op.binOp Go.BinOp.eql 3 (Go.Operand.tmp 53) (Go.Operand.const (Go.Value.int Go.IntKind.i64 0)) 3, type := 4, pos := "law.go:81", after := #[{ on := 12, ground := Go.Ground.data }, { on := 7, ground := Go.Ground.guard }], guard := some (7, true) }) (v := ?v13_12) rfl (by kernel_rfl) (by kernel_rfl) (by kernel_rfl) (fun _ _ _ h => h) (Or.inl ⟨by rfl, ?hy13_12⟩) (by assumption) ?rest13_12
  case hy13_12 =>
    intro w' hSw
    try dsimp only at hSw
    go_simp
    try with_reducible rfl
  try simp only [Act.put, List.setIfInBounds_toArray, List.set_cons_zero, List.set_cons_succ]
  refine wpAnyH_take (i := 14) (oi := { dst := some 55, op := Go.Op.pick (Go.Operand.tmp 48) (Go.Operand.tmp 54) (Go.Operand.const (Go.Value.bool false)), type := 4, pos := "law.go:81", after := #[{ on := 7, ground := Go.Ground.data }, { on := 13, ground := Go.Ground.data }], guard := none }) (v := ?v14_13) rfl (by kernel_rfl) (by kernel_rfl) (by kernel_rfl) (fun _ _ _ h => h) (Or.inl ⟨by rfl, ?hy14_13⟩) (by assumption) ?rest14_13
  case hy14_13 =>
    intro w' hSw
    try dsimp only at hSw
    go_simp
    try with_reducible rfl
  try simp only [Act.put, List.setIfInBounds_toArray, List.set_cons_zero, List.set_cons_succ]
  refine wpAnyH_take (i := 15) (oi := { dst := some 56, op := Go.Op.move (Go.Operand.tmp 55), type := 4, pos := "law.go:81", after := #[{ on := 14, ground := Go.Ground.data }, { on := 11, ground := Go.Ground.chain }], guard := none }) (v := ?v15_14) rfl (by kernel_rfl) (by kernel_rfl) (by kernel_rfl) (fun _ _ _ h => h) (Or.inl ⟨by rfl, ?hy15_14⟩) (by assumption) ?rest15_14
  case hy15_14 =>
    intro w' hSw
    try dsimp only at hSw
    go_simp
    try with_reducible rfl
  try simp only [Act.put, List.setIfInBounds_toArray, List.set_cons_zero, List.set_cons_succ]
  refine' wpAnyH_take (i := 16) (oi := { dst := some 57, op := Go.Op.load 31 (Go.Operand.tmp 5), type := 31, pos := "law.go:81", after := #[{ on := 15, ground := Go.Ground.guard }], guard := some (15, true) }) (v := _) rfl (by kernel_rfl) (by kernel_rfl) (by kernel_rfl) (fun _ _ _ h => h) (yieldsIf_load_mid (by rfl) _ _ rfl _ _ rfl _ _ HLH.out UH.out.1 rfl UH.out.2) (by assumption) ?rest16_15
  try simp only [Act.put, List.setIfInBounds_toArray, List.set_cons_zero, List.set_cons_succ]
  refine wpAnyH_take (i := 17) (oi := { dst := some 58, op := Go.Op.move (Go.Operand.tmp 7), type := 9, pos := "law.go:81", after := #[{ on := 15, ground := Go.Ground.guard }], guard := some (15, true) }) (v := ?v17_16) rfl (by kernel_rfl) (by kernel_rfl) (by kernel_rfl) (fun _ _ _ h => h) (Or.inl ⟨by rfl, ?hy17_16⟩) (by assumption) ?rest17_16
  case hy17_16 =>
    intro w' hSw
    try dsimp only at hSw
    go_simp
    try with_reducible rfl
  try simp only [Act.put, List.setIfInBounds_toArray, List.set_cons_zero, List.set_cons_succ]
  refine wpAnyH_take (i := 18) (oi := { dst := some 59, op := Go.Op.move (Go.Operand.tmp 7), type := 9, pos := "law.go:81", after := #[{ on := 15, ground := Go.Ground.guard }], guard := some (15, true) }) (v := ?v18_17) rfl (by kernel_rfl) (by kernel_rfl) (by kernel_rfl) (fun _ _ _ h => h) (Or.inl ⟨by rfl, ?hy18_17⟩) (by assumption) ?rest18_17
  case hy18_17 =>
    intro w' hSw
    try dsimp only at hSw
    go_simp
    try with_reducible rfl
  try simp only [Act.put, List.setIfInBounds_toArray, List.set_cons_zero, List.set_cons_succ]
  refine wpAnyH_ready (rs := [19]) (by kernel_rfl) (by simp) ?_
  refine AllReadyH.cons (o := { dst := some 60, op := Go.Op.call { callee := Go.Callee.builtin Go.Builtin.len, args := #[Go.Operand.tmp 59], argTypes := #[9] }, type := 3, pos := "law.go:81", after := #[{ on := 18, ground := Go.Ground.data }, { on := 15, ground := Go.Ground.guard }], guard := some (15, true) }) rfl (fun K hK => ?_) AllReadyH.nil
  go_simp
  refine hK.out _ _ ?_ (fun hHeld2 => ?_)
  · first | assumption | go_keep
  clear hHeld
  have hHeld := hHeld2
  clear hK K hHeld2
  try simp only [Act.put, List.setIfInBounds_toArray, List.set_cons_zero, List.set_cons_succ]
  refine wpAnyH_ready (rs := [20]) (by kernel_rfl) (by simp) ?_
  refine AllReadyH.cons (o := { dst := some 61, op := Go.Op.call { callee := Go.Callee.value (Go.Operand.func 11), args := #[Go.Operand.tmp 58, Go.Operand.const (Go.Value.int Go.IntKind.i64 0), Go.Operand.tmp 60], argTypes := #[9, 3, 3] }, type := 37, pos := "law.go:81", after := #[{ on := 17, ground := Go.Ground.data }, { on := 19, ground := Go.Ground.data }, { on := 15, ground := Go.Ground.chain }, { on := 15, ground := Go.Ground.guard }], guard := some (15, true) }) rfl (fun K hK => ?_) AllReadyH.nil
  go_simp
  refine (KD.out _).mono ?_
  rintro e x2 ⟨rfl, gx⟩
  have G2 := Lib.hid (show w6.drew.grownBy x2 none from gb_trans G1.out gx)
  clear gx
  have p_2 := HPG.out _ _ p0 G2.out
  go_wp2_with fail
  refine hK.out _ _ ?_ (fun hHeld2 => ?_)
  · first | assumption | go_keep
  clear hHeld
  have hHeld := hHeld2
  clear hK K hHeld2
  try simp only [Act.put, List.setIfInBounds_toArray, List.set_cons_zero, List.set_cons_succ]
  refine wpAnyH_ready (rs := [21]) (by kernel_rfl) (by simp) ?_
  refine AllReadyH.cons (o := { dst := some 62, op := Go.Op.call { callee := Go.Callee.value (Go.Operand.func 12), args := #[Go.Operand.tmp 57, Go.Operand.tmp 61], argTypes := #[31, 37] }, type := 4, pos := "law.go:81", after := #[{ on := 16, ground := Go.Ground.data }, { on := 20, ground := Go.Ground.data }, { on := 20, ground := Go.Ground.chain }, { on := 15, ground := Go.Ground.guard }], guard := some (15, true) }) rfl (fun K hK => ?_) AllReadyH.nil
  go_simp
  refine (KS.out _).mono ?_
  rintro e x3 ⟨rfl, gx⟩
  have G3 := Lib.hid (show w6.drew.grownBy x3 none from gb_trans G2.out gx)
  clear gx
  have p_3 := HPG.out _ _ p0 G3.out
  go_wp2_with fail
  refine hK.out _ _ ?_ (fun hHeld2 => ?_)
  · first | assumption | go_keep
  clear hHeld
  have hHeld := hHeld2
  clear hK K hHeld2
  try simp only [Act.put, List.setIfInBounds_toArray, List.set_cons_zero, List.set_cons_succ]
  refine wpAnyH_take (i := 22) (oi := { dst := some 63, op := Go.Op.pick (Go.Operand.tmp 56) (Go.Operand.tmp 62) (Go.Operand.const (Go.Value.bool false)), type := 4, pos := "law.go:81", after := #[{ on := 15, ground := Go.Ground.data }, { on := 21, ground := Go.Ground.data }], guard := none }) (v := ?v22_18) rfl (by kernel_rfl) (by kernel_rfl) (by kernel_rfl) (fun _ _ _ h => h) (Or.inl ⟨by rfl, ?hy22_18⟩) (by assumption) ?rest22_18
  case hy22_18 =>
    intro w' hSw
    try dsimp only at hSw
    go_simp
    try with_reducible rfl
  try simp only [Act.put, List.setIfInBounds_toArray, List.set_cons_zero, List.set_cons_succ]
  refine wpAnyH_take (i := 23) (oi := { dst := some 64, op := Go.Op.move (Go.Operand.tmp 63), type := 4, pos := "law.go:81", after := #[{ on := 22, ground := Go.Ground.data }, { on := 21, ground := Go.Ground.chain }], guard := none }) (v := ?v23_19) rfl (by kernel_rfl) (by kernel_rfl) (by kernel_rfl) (fun _ _ _ h => h) (Or.inl ⟨by rfl, ?hy23_19⟩) (by assumption) ?rest23_19
  case hy23_19 =>
    intro w' hSw
    try dsimp only at hSw
    go_simp
    try with_reducible rfl
  try simp only [Act.put, List.setIfInBounds_toArray, List.set_cons_zero, List.set_cons_succ]
  refine wpAnyH_ready (rs := [24]) (by kernel_rfl) (by simp) ?_
  refine AllReadyH.cons (o := { dst := some 65, op := Go.Op.call { callee := Go.Callee.value (Go.Operand.func 7), args := #[], argTypes := #[] }, type := 4, pos := "law.go:81", after := #[{ on := 23, ground := Go.Ground.chain }, { on := 23, ground := Go.Ground.guard }], guard := some (23, true) }) rfl (fun K hK => ?_) AllReadyH.nil
  go_simp
  refine (KA.out _).mono ?_
  rintro e x4 ⟨rfl, gx⟩
  have G4 := Lib.hid (show w6.drew.grownBy x4 none from gb_trans G3.out gx)
  clear gx
  have p_4 := HPG.out _ _ p0 G4.out
  go_wp2_with fail
  refine hK.out _ _ ?_ (fun hHeld2 => ?_)
  · first | assumption | go_keep
  clear hHeld
  have hHeld := hHeld2
  clear hK K hHeld2
  try simp only [Act.put, List.setIfInBounds_toArray, List.set_cons_zero, List.set_cons_succ]
  refine wpAnyH_take (i := 25) (oi := { dst := some 66, op := Go.Op.pick (Go.Operand.tmp 64) (Go.Operand.tmp 65) (Go.Operand.const (Go.Value.bool false)), type := 4, pos := "law.go:81", after := #[{ on := 23, ground := Go.Ground.data }, { on := 24, ground := Go.Ground.data }], guard := none }) (v := ?v25_20) rfl (by kernel_rfl) (by kernel_rfl) (by kernel_rfl) (fun _ _ _ h => h) (Or.inl ⟨by rfl, ?hy25_20⟩) (by assumption) ?rest25_20
  case hy25_20 =>
    intro w' hSw
    try dsimp only at hSw
    go_simp
    try with_reducible rfl
  try simp only [Act.put, List.setIfInBounds_toArray, List.set_cons_zero, List.set_cons_succ]
  refine wpAnyH_take (i := 26) (oi := { dst := some 2, op := Go.Op.assign (Go.Operand.tmp 66), type := 4, pos := "law.go:81", after := #[{ on := 25, ground := Go.Ground.data }, { on := 24, ground := Go.Ground.chain }, { on := 0, ground := Go.Ground.phase }, { on := 1, ground := Go.Ground.phase }, { on := 2, ground := Go.Ground.phase }, { on := 3, ground := Go.Ground.phase }, { on := 4, ground := Go.Ground.phase }, { on := 5, ground := Go.Ground.phase }, { on := 6, ground := Go.Ground.phase }, { on := 7, ground := Go.Ground.phase }, { on := 8, ground := Go.Ground.phase }, { on := 9, ground := Go.Ground.phase }, { on := 10, ground := Go.Ground.phase }, { on := 11, ground := Go.Ground.phase }, { on := 12, ground := Go.Ground.phase }, { on := 13, ground := Go.Ground.phase }, { on := 14, ground := Go.Ground.phase }, { on := 15, ground := Go.Ground.phase }, { on := 16, ground := Go.Ground.phase }, { on := 17, ground := Go.Ground.phase }, { on := 18, ground := Go.Ground.phase }, { on := 19, ground := Go.Ground.phase }, { on := 20, ground := Go.Ground.phase }, { on := 21, ground := Go.Ground.phase }, { on := 22, ground := Go.Ground.phase }, { on := 23, ground := Go.Ground.phase }, { on := 24, ground := Go.Ground.phase }, { on := 25, ground := Go.Ground.phase }], guard := none }) (v := ?v26_21) rfl (by kernel_rfl) (by kernel_rfl) (by kernel_rfl) (fun _ _ _ h => h) (Or.inl ⟨by rfl, ?hy26_21⟩) (by assumption) ?rest26_21
  case hy26_21 =>
    intro w' hSw
    try dsimp only at hSw
    go_simp
    try with_reducible rfl
  try simp only [Act.put, List.setIfInBounds_toArray, List.set_cons_zero, List.set_cons_succ]
  refine wpAnyH_done (by kernel_rfl) ?_ _
  have GG := Lib.hid (gb_trans HG6.out (gb_trans (gb_drew w6 none) G4.out))
  clear HG6 HPG
  go_wp2
  go_ret
  exact ⟨rfl, GG.out⟩

end Go.Proofs.YtikjfmpdfeaooaaDoor.Dh

/- Layer 20: the law DibheadBack, walked (written by wip/gen/dbk.py). -/
namespace Go.Proofs.YtikjfmpdfeaooaaDoor.Dh
open Go.ChangeShapes Go.WideShapes Go.ChangeAt Go.RowKit
open Go.Proofs.YtikjfmpdfeaooaaDoor.Le Go.Proofs.YtikjfmpdfeaooaaDoor.Sr Go.Proofs.YtikjfmpdfeaooaaDoor.Ma
set_option linter.unusedVariables false

set_option maxRecDepth 100000 in
set_option maxHeartbeats 4000000 in
theorem lawk_far (T : ByteArray) (z0 z1 z2 : Int) (z3 : Bool) (z4 z5 z6 z7 z8 z9 z10 z11 z12 z13 z14 : Int) (W : World) (t0 : decide ((300 : Int) < (T.size : Nat)) = true) (KDT0 : ∀ u, Calls Tryd.prog 11 #[.string T, .int .i64 0, .int .i64 (T.size : Nat)] u fun e w' => e = .returned (.agg #[.int .i64 z0, .int .i64 z1, .int .i64 z2, .bool z3, .int .i64 z4, .int .i64 z5, .int .i64 z6, .int .i64 z7, .int .i64 z8, .int .i64 z9, .int .i64 z10, .int .i64 z11, .int .i64 z12, .int .i64 z13, .int .i64 z14]) ∧ u.grownBy w' none) :
    Calls Tryd.prog 5 #[.string T] W fun e w' => e = .returned (.bool true) ∧ W.grownBy w' none := by
  have KDT := Lib.hid KDT0
  have KA := Lib.hid (fun u => awake_calls u)
  clear KDT0
  go_enter Tryd.func5, Tryd.ntmps5
  go_wp2_with fail
  refine (KDT.out _).mono ?_
  rintro e w1 ⟨rfl, g1⟩
  have D1 : (w1.alloc (.cells #[.int .i64 z0, .int .i64 z1, .int .i64 z2, .bool z3, .int .i64 z4, .int .i64 z5, .int .i64 z6, .int .i64 z7, .int .i64 z8, .int .i64 z9, .int .i64 z10, .int .i64 z11, .int .i64 z12, .int .i64 z13, .int .i64 z14] 37)).heap[w1.heap.size]? = some (.cells #[.int .i64 z0, .int .i64 z1, .int .i64 z2, .bool z3, .int .i64 z4, .int .i64 z5, .int .i64 z6, .int .i64 z7, .int .i64 z8, .int .i64 z9, .int .i64 z10, .int .i64 z11, .int .i64 z12, .int .i64 z13, .int .i64 z14] 37 (0, 0)) := blk_at
  have G1 := gb_trans g1 (World.grownBy_alloc w1 (.cells #[.int .i64 z0, .int .i64 z1, .int .i64 z2, .bool z3, .int .i64 z4, .int .i64 z5, .int .i64 z6, .int .i64 z7, .int .i64 z8, .int .i64 z9, .int .i64 z10, .int .i64 z11, .int .i64 z12, .int .i64 z13, .int .i64 z14] 37) none)
  clear g1
  go_upto_region 2 with fail
  obtain ⟨db, hdb⟩ : ∃ k, w1.heap.size = k := ⟨_, rfl⟩
  rw [hdb] at D1 ⊢
  generalize w1.alloc (.cells #[.int .i64 z0, .int .i64 z1, .int .i64 z2, .bool z3, .int .i64 z4, .int .i64 z5, .int .i64 z6, .int .i64 z7, .int .i64 z8, .int .i64 z9, .int .i64 z10, .int .i64 z11, .int .i64 z12, .int .i64 z13, .int .i64 z14] 37) = w2 at D1 G1 ⊢
  clear hdb
  have d0 := blk_cell D1 0
  have d13 := blk_cell D1 13
  simp only [List.getElem?_toArray, List.getElem?_cons_succ, List.getElem?_cons_zero] at d0 d13
  have HG1 := Lib.hid G1
  clear D1 G1
  go_wp2_with fail
  refine (KA.out _).mono ?_
  rintro e w3 ⟨rfl, g3⟩
  have HG3 := Lib.hid (gb_trans HG1.out g3)
  clear g3
  go_wp2
  go_ret
  exact ⟨rfl, HG3.out⟩

set_option maxRecDepth 100000 in
set_option maxHeartbeats 4000000 in
theorem lawk_bad (T : ByteArray) (z0 z1 z2 : Int) (z3 : Bool) (z4 z5 z6 z7 z8 z9 z10 z11 z12 z13 z14 : Int) (W : World) (t0 : decide ((300 : Int) < (T.size : Nat)) = false) (t1 : (z13 != 0) = true) (KDT0 : ∀ u, Calls Tryd.prog 11 #[.string T, .int .i64 0, .int .i64 (T.size : Nat)] u fun e w' => e = .returned (.agg #[.int .i64 z0, .int .i64 z1, .int .i64 z2, .bool z3, .int .i64 z4, .int .i64 z5, .int .i64 z6, .int .i64 z7, .int .i64 z8, .int .i64 z9, .int .i64 z10, .int .i64 z11, .int .i64 z12, .int .i64 z13, .int .i64 z14]) ∧ u.grownBy w' none) :
    Calls Tryd.prog 5 #[.string T] W fun e w' => e = .returned (.bool true) ∧ W.grownBy w' none := by
  have KDT := Lib.hid KDT0
  have KA := Lib.hid (fun u => awake_calls u)
  clear KDT0
  go_enter Tryd.func5, Tryd.ntmps5
  go_wp2_with fail
  refine (KDT.out _).mono ?_
  rintro e w1 ⟨rfl, g1⟩
  have D1 : (w1.alloc (.cells #[.int .i64 z0, .int .i64 z1, .int .i64 z2, .bool z3, .int .i64 z4, .int .i64 z5, .int .i64 z6, .int .i64 z7, .int .i64 z8, .int .i64 z9, .int .i64 z10, .int .i64 z11, .int .i64 z12, .int .i64 z13, .int .i64 z14] 37)).heap[w1.heap.size]? = some (.cells #[.int .i64 z0, .int .i64 z1, .int .i64 z2, .bool z3, .int .i64 z4, .int .i64 z5, .int .i64 z6, .int .i64 z7, .int .i64 z8, .int .i64 z9, .int .i64 z10, .int .i64 z11, .int .i64 z12, .int .i64 z13, .int .i64 z14] 37 (0, 0)) := blk_at
  have G1 := gb_trans g1 (World.grownBy_alloc w1 (.cells #[.int .i64 z0, .int .i64 z1, .int .i64 z2, .bool z3, .int .i64 z4, .int .i64 z5, .int .i64 z6, .int .i64 z7, .int .i64 z8, .int .i64 z9, .int .i64 z10, .int .i64 z11, .int .i64 z12, .int .i64 z13, .int .i64 z14] 37) none)
  clear g1
  go_upto_region 2 with fail
  obtain ⟨db, hdb⟩ : ∃ k, w1.heap.size = k := ⟨_, rfl⟩
  rw [hdb] at D1 ⊢
  generalize w1.alloc (.cells #[.int .i64 z0, .int .i64 z1, .int .i64 z2, .bool z3, .int .i64 z4, .int .i64 z5, .int .i64 z6, .int .i64 z7, .int .i64 z8, .int .i64 z9, .int .i64 z10, .int .i64 z11, .int .i64 z12, .int .i64 z13, .int .i64 z14] 37) = w2 at D1 G1 ⊢
  clear hdb
  have d0 := blk_cell D1 0
  have d13 := blk_cell D1 13
  simp only [List.getElem?_toArray, List.getElem?_cons_succ, List.getElem?_cons_zero] at d0 d13
  have HG1 := Lib.hid G1
  clear D1 G1
  go_wp2_with fail
  refine (KA.out _).mono ?_
  rintro e w3 ⟨rfl, g3⟩
  have HG3 := Lib.hid (gb_trans HG1.out g3)
  clear g3
  go_wp2
  go_ret
  exact ⟨rfl, HG3.out⟩

set_option maxRecDepth 100000 in
set_option maxHeartbeats 4000000 in
theorem lawk_size (T : ByteArray) (z0 z1 z2 : Int) (z3 : Bool) (z4 z5 z6 z7 z8 z9 z10 z11 z12 z13 z14 : Int) (W : World) (t0 : decide ((300 : Int) < (T.size : Nat)) = false) (t1 : (z13 != 0) = false) (t2 : (z0 != 40) = true) (KDT0 : ∀ u, Calls Tryd.prog 11 #[.string T, .int .i64 0, .int .i64 (T.size : Nat)] u fun e w' => e = .returned (.agg #[.int .i64 z0, .int .i64 z1, .int .i64 z2, .bool z3, .int .i64 z4, .int .i64 z5, .int .i64 z6, .int .i64 z7, .int .i64 z8, .int .i64 z9, .int .i64 z10, .int .i64 z11, .int .i64 z12, .int .i64 z13, .int .i64 z14]) ∧ u.grownBy w' none) :
    Calls Tryd.prog 5 #[.string T] W fun e w' => e = .returned (.bool true) ∧ W.grownBy w' none := by
  have KDT := Lib.hid KDT0
  have KA := Lib.hid (fun u => awake_calls u)
  clear KDT0
  go_enter Tryd.func5, Tryd.ntmps5
  go_wp2_with fail
  refine (KDT.out _).mono ?_
  rintro e w1 ⟨rfl, g1⟩
  have D1 : (w1.alloc (.cells #[.int .i64 z0, .int .i64 z1, .int .i64 z2, .bool z3, .int .i64 z4, .int .i64 z5, .int .i64 z6, .int .i64 z7, .int .i64 z8, .int .i64 z9, .int .i64 z10, .int .i64 z11, .int .i64 z12, .int .i64 z13, .int .i64 z14] 37)).heap[w1.heap.size]? = some (.cells #[.int .i64 z0, .int .i64 z1, .int .i64 z2, .bool z3, .int .i64 z4, .int .i64 z5, .int .i64 z6, .int .i64 z7, .int .i64 z8, .int .i64 z9, .int .i64 z10, .int .i64 z11, .int .i64 z12, .int .i64 z13, .int .i64 z14] 37 (0, 0)) := blk_at
  have G1 := gb_trans g1 (World.grownBy_alloc w1 (.cells #[.int .i64 z0, .int .i64 z1, .int .i64 z2, .bool z3, .int .i64 z4, .int .i64 z5, .int .i64 z6, .int .i64 z7, .int .i64 z8, .int .i64 z9, .int .i64 z10, .int .i64 z11, .int .i64 z12, .int .i64 z13, .int .i64 z14] 37) none)
  clear g1
  go_upto_region 2 with fail
  obtain ⟨db, hdb⟩ : ∃ k, w1.heap.size = k := ⟨_, rfl⟩
  rw [hdb] at D1 ⊢
  generalize w1.alloc (.cells #[.int .i64 z0, .int .i64 z1, .int .i64 z2, .bool z3, .int .i64 z4, .int .i64 z5, .int .i64 z6, .int .i64 z7, .int .i64 z8, .int .i64 z9, .int .i64 z10, .int .i64 z11, .int .i64 z12, .int .i64 z13, .int .i64 z14] 37) = w2 at D1 G1 ⊢
  clear hdb
  have d0 := blk_cell D1 0
  have d13 := blk_cell D1 13
  simp only [List.getElem?_toArray, List.getElem?_cons_succ, List.getElem?_cons_zero] at d0 d13
  have HG1 := Lib.hid G1
  clear D1 G1
  go_wp2_with fail
  refine (KA.out _).mono ?_
  rintro e w3 ⟨rfl, g3⟩
  have HG3 := Lib.hid (gb_trans HG1.out g3)
  clear g3
  go_wp2
  go_ret
  exact ⟨rfl, HG3.out⟩

set_option maxRecDepth 100000 in
set_option maxHeartbeats 4000000 in
theorem lawk_good (T : ByteArray) (hT3 : T.size ≤ 300) (X Y : Int) (tp : Bool) (D M C v0 v1 v2 v3 v4 v5 v6 v7 m0 m1 m2 m3 q : Int) (q0 : Int) (qn : Nat) (y : St) (B : ByteArray) (hq0 : ((B.size : Nat) : Int) = q) (W : World) (hlt : 0 < W.heap.size) (hTab : Tab W) (KDT0 : ∀ u, Calls Tryd.prog 11 #[.string T, .int .i64 0, .int .i64 (T.size : Nat)] u fun e w' => e = .returned (.agg #[.int .i64 40, .int .i64 X, .int .i64 Y, .bool tp, .int .i64 D, .int .i64 M, .int .i64 C, .int .i64 m0, .int .i64 m1, .int .i64 m2, .int .i64 m3, .int .i64 0, .int .i64 q0, .int .i64 0, .int .i64 0]) ∧ u.grownBy w' none) (KC0 : CRd T 0 1 (LW 1000 0) qn y (.agg #[.int .i64 40, .int .i64 X, .int .i64 Y, .bool tp, .int .i64 D, .int .i64 M, .int .i64 C, .int .i64 v0, .int .i64 v1, .int .i64 v2, .int .i64 v3, .int .i64 v4, .int .i64 v5, .int .i64 v6, .int .i64 v7, .int .i64 0]) (flV 0 0 0)) (KB0 : ∀ u, W.grownBy u none → Calls Tryd.prog 18 #[.agg #[.int .i64 40, .int .i64 X, .int .i64 Y, .bool tp, .int .i64 D, .int .i64 M, .int .i64 C, .int .i64 v0, .int .i64 v1, .int .i64 v2, .int .i64 v3, .int .i64 v4, .int .i64 v5, .int .i64 v6, .int .i64 v7, .int .i64 0]] u fun e w' => e = .returned (.tuple #[.string B, .int .i64 0]) ∧ u.grownBy w' none) (KD0 : ∀ u, Calls Tryd.prog 11 #[.string B, .int .i64 0, .int .i64 q] u fun e w' => e = .returned (.agg #[.int .i64 40, .int .i64 X, .int .i64 Y, .bool tp, .int .i64 D, .int .i64 M, .int .i64 C, .int .i64 m0, .int .i64 m1, .int .i64 m2, .int .i64 m3, .int .i64 0, .int .i64 q, .int .i64 0, .int .i64 0]) ∧ u.grownBy w' none) (KS0 : ∀ u, Calls Tryd.prog 12 #[.agg #[.int .i64 40, .int .i64 X, .int .i64 Y, .bool tp, .int .i64 D, .int .i64 M, .int .i64 C, .int .i64 v0, .int .i64 v1, .int .i64 v2, .int .i64 v3, .int .i64 v4, .int .i64 v5, .int .i64 v6, .int .i64 v7, .int .i64 0], .agg #[.int .i64 40, .int .i64 X, .int .i64 Y, .bool tp, .int .i64 D, .int .i64 M, .int .i64 C, .int .i64 m0, .int .i64 m1, .int .i64 m2, .int .i64 m3, .int .i64 0, .int .i64 q, .int .i64 0, .int .i64 0]] u fun e w' => e = .returned (.bool true) ∧ u.grownBy w' none) :
    Calls Tryd.prog 5 #[.string T] W fun e w' => e = .returned (.bool true) ∧ W.grownBy w' none := by
  have KDT := Lib.hid KDT0
  have KB := Lib.hid KB0
  have KDD := Lib.hid KD0
  have KS := Lib.hid KS0
  have KRD := Lib.hid KC0
  have KFR := Lib.hid (fun u => fresh_calls T u (by omega))
  have t0 : decide ((300 : Int) < (T.size : Nat)) = false := decide_eq_false (by omega)
  have HQ := Lib.hid hq0
  unfold CRd flV at KRD
  clear KDT0 KB0 KD0 KS0 KC0 hq0 hT3
  go_enter Tryd.func5, Tryd.ntmps5
  go_wp2_with fail
  refine (KDT.out _).mono ?_
  rintro e w1 ⟨rfl, g1⟩
  have D1 : (w1.alloc (.cells #[.int .i64 40, .int .i64 X, .int .i64 Y, .bool tp, .int .i64 D, .int .i64 M, .int .i64 C, .int .i64 m0, .int .i64 m1, .int .i64 m2, .int .i64 m3, .int .i64 0, .int .i64 q0, .int .i64 0, .int .i64 0] 37)).heap[w1.heap.size]? = some (.cells #[.int .i64 40, .int .i64 X, .int .i64 Y, .bool tp, .int .i64 D, .int .i64 M, .int .i64 C, .int .i64 m0, .int .i64 m1, .int .i64 m2, .int .i64 m3, .int .i64 0, .int .i64 q0, .int .i64 0, .int .i64 0] 37 (0, 0)) := blk_at
  have G1 := gb_trans g1 (World.grownBy_alloc w1 (.cells #[.int .i64 40, .int .i64 X, .int .i64 Y, .bool tp, .int .i64 D, .int .i64 M, .int .i64 C, .int .i64 m0, .int .i64 m1, .int .i64 m2, .int .i64 m3, .int .i64 0, .int .i64 q0, .int .i64 0, .int .i64 0] 37) none)
  clear g1
  go_upto_region 2 with fail
  obtain ⟨db, hdb⟩ : ∃ k, w1.heap.size = k := ⟨_, rfl⟩
  rw [hdb] at D1 ⊢
  generalize w1.alloc (.cells #[.int .i64 40, .int .i64 X, .int .i64 Y, .bool tp, .int .i64 D, .int .i64 M, .int .i64 C, .int .i64 m0, .int .i64 m1, .int .i64 m2, .int .i64 m3, .int .i64 0, .int .i64 q0, .int .i64 0, .int .i64 0] 37) = w2 at D1 G1 ⊢
  clear hdb
  have d0 := blk_cell D1 0
  have d13 := blk_cell D1 13
  simp only [List.getElem?_toArray, List.getElem?_cons_succ, List.getElem?_cons_zero] at d0 d13
  have HG1 := Lib.hid G1
  clear D1 G1
  go_wp2_with fail
  refine (KFR.out _).mono ?_
  rintro e w3 ⟨c, l, rfl, S3, g3, hl, hc⟩
  have HS3 := Lib.hid S3
  have G3 := Lib.hid (gb_trans HG1.out g3)
  have hcl : W.heap.size ≤ c ∧ W.heap.size ≤ l := ⟨Nat.le_trans HG1.out.size hc, Nat.le_trans HG1.out.size hl⟩
  have HCL := Lib.hid hcl
  clear S3 g3 hl hc hcl HG1 KFR d0 d13
  go_wp2_with fail
  refine (KRD.out c l 0 _ HS3.out (hTab.grown hlt G3.out) (by have := HCL.out; omega) (by have := HCL.out; omega)).mono ?_
  rintro e w4 ⟨rfl, S4, t4⟩
  have G4 : W.grownBy w4 none := Tn.own G3.out t4 (by intro x hx; have := HCL.out; simp at hx; omega)
  have A5 : ((w4.alloc (.cells #[.int .i64 40, .int .i64 X, .int .i64 Y, .bool tp, .int .i64 D, .int .i64 M, .int .i64 C, .int .i64 v0, .int .i64 v1, .int .i64 v2, .int .i64 v3, .int .i64 v4, .int .i64 v5, .int .i64 v6, .int .i64 v7, .int .i64 0] 31)).alloc (.cells #[.int .i64 0, .int .i64 0, .int .i64 0] 33)).heap[w4.heap.size]? = some (.cells #[.int .i64 40, .int .i64 X, .int .i64 Y, .bool tp, .int .i64 D, .int .i64 M, .int .i64 C, .int .i64 v0, .int .i64 v1, .int .i64 v2, .int .i64 v3, .int .i64 v4, .int .i64 v5, .int .i64 v6, .int .i64 v7, .int .i64 0] 31 (0, 0)) := blk_al blk_at _
  have F5 : ((w4.alloc (.cells #[.int .i64 40, .int .i64 X, .int .i64 Y, .bool tp, .int .i64 D, .int .i64 M, .int .i64 C, .int .i64 v0, .int .i64 v1, .int .i64 v2, .int .i64 v3, .int .i64 v4, .int .i64 v5, .int .i64 v6, .int .i64 v7, .int .i64 0] 31)).alloc (.cells #[.int .i64 0, .int .i64 0, .int .i64 0] 33)).heap[w4.heap.size + 1]? = some (.cells #[.int .i64 0, .int .i64 0, .int .i64 0] 33 (0, 0)) := by
    rw [← size_alloc w4 (.cells #[.int .i64 40, .int .i64 X, .int .i64 Y, .bool tp, .int .i64 D, .int .i64 M, .int .i64 C, .int .i64 v0, .int .i64 v1, .int .i64 v2, .int .i64 v3, .int .i64 v4, .int .i64 v5, .int .i64 v6, .int .i64 v7, .int .i64 0] 31)]; exact blk_at
  have G5 := gb_trans G4 (gb_trans (World.grownBy_alloc w4 (.cells #[.int .i64 40, .int .i64 X, .int .i64 Y, .bool tp, .int .i64 D, .int .i64 M, .int .i64 C, .int .i64 v0, .int .i64 v1, .int .i64 v2, .int .i64 v3, .int .i64 v4, .int .i64 v5, .int .i64 v6, .int .i64 v7, .int .i64 0] 31) none) (World.grownBy_alloc (w4.alloc (.cells #[.int .i64 40, .int .i64 X, .int .i64 Y, .bool tp, .int .i64 D, .int .i64 M, .int .i64 C, .int .i64 v0, .int .i64 v1, .int .i64 v2, .int .i64 v3, .int .i64 v4, .int .i64 v5, .int .i64 v6, .int .i64 v7, .int .i64 0] 31)) (.cells #[.int .i64 0, .int .i64 0, .int .i64 0] 33) none))
  clear S4 t4 G4 HS3 G3 HCL
  go_upto_region 8 with fail
  obtain ⟨hb, hhb⟩ : ∃ k, w4.heap.size = k := ⟨_, rfl⟩
  rw [hhb] at A5 F5 ⊢
  generalize (w4.alloc (.cells #[.int .i64 40, .int .i64 X, .int .i64 Y, .bool tp, .int .i64 D, .int .i64 M, .int .i64 C, .int .i64 v0, .int .i64 v1, .int .i64 v2, .int .i64 v3, .int .i64 v4, .int .i64 v5, .int .i64 v6, .int .i64 v7, .int .i64 0] 31)).alloc (.cells #[.int .i64 0, .int .i64 0, .int .i64 0] 33) = w5 at A5 F5 G5 ⊢
  clear hhb
  have a0 := blk_cell A5 0
  have a1 := blk_cell A5 1
  have a2 := blk_cell A5 2
  have a3 := blk_cell A5 3
  have a4 := blk_cell A5 4
  have a5 := blk_cell A5 5
  have a6 := blk_cell A5 6
  have a7 := blk_cell A5 7
  have a8 := blk_cell A5 8
  have a9 := blk_cell A5 9
  have a10 := blk_cell A5 10
  have a11 := blk_cell A5 11
  have a12 := blk_cell A5 12
  have a13 := blk_cell A5 13
  have a14 := blk_cell A5 14
  have a15 := blk_cell A5 15
  simp only [List.getElem?_toArray, List.getElem?_cons_succ, List.getElem?_cons_zero] at a0 a1 a2 a3 a4 a5 a6 a7 a8 a9 a10 a11 a12 a13 a14 a15
  have HA5 := Lib.hid A5
  have HF5 := Lib.hid F5
  have HG5 := Lib.hid G5
  clear A5 F5 G5
  go_wp2_with fail
  refine (KB.out _ HG5.out).mono ?_
  rintro e w6 ⟨rfl, g6⟩
  have A6 := old0 g6 HA5.out (blk_lt HA5.out) (by simp)
  have F6 := old0 g6 HF5.out (blk_lt HF5.out) (by simp)
  have G6 := gb_trans HG5.out g6
  have HX := Lib.hid (And.intro A6 (And.intro F6 G6))
  clear g6 HA5 HF5 HG5 A6 F6 G6 a0 a1 a2 a3 a4 a5 a6 a7 a8 a9 a10 a11 a12 a13 a14 a15
  go_upto_region 9 with fail
  exact ktail W X Y tp D M C v0 v1 v2 v3 v4 v5 v6 v7 m0 m1 m2 m3 q B HQ.out hb w6 HX.out.1 HX.out.2.1 HX.out.2.2 KDD.out KS.out (fun u => awake_calls u) _ _ _ _ _ _ _ _ _ _ _ _ _ _ _ _ _ _ _ _ _ _ _ _ _ _ _ _ _ _ _ _ _ _ _ _ _ _ _ _ _ _ _ _ _ _ _ _ _ _ _ _ _ _ _ _ _ _ _ _ _ _ _ (by assumption)

end Go.Proofs.YtikjfmpdfeaooaaDoor.Dh

/- Layer 20: the document's Read of any long text tells something. -/
namespace Go.Proofs.YtikjfmpdfeaooaaDoor.Dh
open Go.ChangeShapes Go.WideShapes Go.ChangeAt Go.RowKit
open Go.Proofs.YtikjfmpdfeaooaaDoor.Le Go.Proofs.YtikjfmpdfeaooaaDoor.Sr Go.Proofs.YtikjfmpdfeaooaaDoor.Ma
set_option linter.unusedVariables false

theorem bad_vis (k p : Int) : MVis (badA k p) := ⟨_, _, _, _, _, _, _, _, _, _, _, _, _, _, _, rfl⟩
theorem sh_vis (fr : Nat) (X Y P D : Int) : MVis (shV fr X Y P D) := by
  unfold shV
  split
  · exact bad_vis _ _
  split
  · exact bad_vis _ _
  split
  · exact bad_vis _ _
  split
  · exact bad_vis _ _
  split
  · exact bad_vis _ _
  split
  · exact bad_vis _ _
  · exact ⟨_, _, _, _, _, _, _, _, _, _, _, _, _, _, _, rfl⟩
theorem dmask_any (T : ByteArray) (n : Nat) (hn : n = 40 ∨ n = 52 ∨ n = 56 ∨ n = 108 ∨ n = 124) (hl : 300 < T.size) (X Y D C : Int) (tp : Bool) : ∃ MV, MVis MV ∧ ∀ u, Calls Tryd.prog 35 #[.string T, .agg #[.int .i64 (n : Nat), .int .i64 X, .int .i64 Y, .bool tp, .int .i64 D, .int .i64 3, .int .i64 C, .int .i64 0, .int .i64 0, .int .i64 0, .int .i64 0, .int .i64 ((0 : Nat)), .int .i64 ((0 + n : Nat)), .int .i64 0, .int .i64 0], .int .i64 (T.size : Nat)] u fun e w' => e = .returned (.agg MV) ∧ u.grownBy w' none := by
  obtain ⟨m0, e0⟩ : ∃ m : Int, ((w4 T (0 + 40) : Nat) : Int) = m := ⟨_, rfl⟩
  obtain ⟨m1, e1⟩ : ∃ m : Int, ((w4 T (0 + 44) : Nat) : Int) = m := ⟨_, rfl⟩
  obtain ⟨m2, e2⟩ : ∃ m : Int, ((w4 T (0 + 48) : Nat) : Int) = m := ⟨_, rfl⟩
  rcases hn with rfl | rfl | h
  · rcases four_both (fun k => if k = 0 then m0 else if k = 1 then m1 else if k = 2 then m2 else 0) D with ⟨tt, c, ht, hc, KF⟩ | ⟨s, m, ho, hM, KF⟩
    · exact ⟨_, bad_vis _ _, fun u => rmasks_40_bad T X Y D C tp 0 T.size _ u (by omega) (by omega) trivial (by omega) tt c ht hc m0 m1 m2 0 e0 e1 e2 rfl KF⟩
    · exact ⟨_, ⟨_, _, _, _, _, _, _, _, _, _, _, _, _, _, _, rfl⟩, fun u => rmasks_40_good T X Y D C tp 0 T.size _ u (by omega) (by omega) trivial (by omega) m0 m1 m2 0 e0 e1 e2 rfl _ KF⟩
  · rcases four_both (fun k => if k = 0 then m0 else if k = 1 then m1 else if k = 2 then m2 else 0) D with ⟨tt, c, ht, hc, KF⟩ | ⟨s, m, ho, hM, KF⟩
    · exact ⟨_, bad_vis _ _, fun u => rmasks_52_bad T X Y D C tp 0 T.size _ u (by omega) (by omega) (by omega) (by omega) tt c ht hc m0 m1 m2 0 e0 e1 e2 rfl KF⟩
    · exact ⟨_, ⟨_, _, _, _, _, _, _, _, _, _, _, _, _, _, _, rfl⟩, fun u => rmasks_52_good T X Y D C tp 0 T.size _ u (by omega) (by omega) (by omega) (by omega) m0 m1 m2 0 e0 e1 e2 rfl _ KF⟩
  · obtain ⟨m3, e3⟩ : ∃ m : Int, ((w4 T (0 + 52) : Nat) : Int) = m := ⟨_, rfl⟩
    rcases four_both (fun k => if k = 0 then m0 else if k = 1 then m1 else if k = 2 then m2 else m3) D with ⟨tt, c, ht, hc, KF⟩ | ⟨s, m, ho, hM, KF⟩
    · exact ⟨_, bad_vis _ _, fun u => rmasks_n_bad T (n : Nat) (by omega) X Y D C tp 0 T.size _ u (by omega) (by omega) (by omega) (by omega) tt c ht hc m0 m1 m2 m3 e0 e1 e2 e3 KF⟩
    · exact ⟨_, ⟨_, _, _, _, _, _, _, _, _, _, _, _, _, _, _, rfl⟩, fun u => rmasks_n_good T (n : Nat) (by omega) X Y D C tp 0 T.size _ u (by omega) (by omega) (by omega) (by omega) m0 m1 m2 m3 e0 e1 e2 e3 _ KF⟩
theorem doc_any (T : ByteArray) (hsm : T.size ≤ 9223372036854775807) (hl : 300 < T.size) : ∃ rv, MVis rv ∧ DRd T 0 rv := by
  obtain ⟨n, hn4⟩ : ∃ n, w4 T 0 = n := ⟨_, rfl⟩
  by_cases h16 : n = 16
  · exact ⟨_, bad_vis _ _, fun W => rread_is16 T 0 T.size W (Nat.le_refl _) hsm (by omega) (by omega) (by rw [hn4, h16])⟩
  by_cases h64 : n = 64
  · exact ⟨_, bad_vis _ _, fun W => rread_is64 T 0 T.size W (Nat.le_refl _) hsm (by omega) (by omega) (by rw [hn4, h64])⟩
  by_cases h12 : n = 12
  · obtain ⟨z, hz⟩ : ∃ z, T.extract 0 (0 + 12) = z := ⟨_, rfl⟩
    exact ⟨_, sh_vis 0 _ _ _ _, fun W => rread_twelve T 0 T.size W (Nat.le_refl _) hsm (by omega) (by omega) (by rw [hn4, h12]) z hz _ _ _ _ (by omega) rfl rfl rfl rfl⟩
  by_cases hn : n = 40 ∨ n = 52 ∨ n = 56 ∨ n = 108 ∨ n = 124
  · obtain ⟨z, hz⟩ : ∃ z, T.extract 0 (0 + n) = z := ⟨_, rfl⟩
    obtain ⟨K, F⟩ := fst_ex (ckD (n : Nat) (sgn (w4 z 4)) (sgn (w4 z 8)) (w2 z 12 : Nat) (w2 z 14 : Nat) (w4 z 16 : Nat) (w4 z 32 : Nat))
    obtain ⟨MV, hMV, KM⟩ : ∃ MV, MVis MV ∧ ∀ u, Calls Tryd.prog 35 #[.string T, .agg #[.int .i64 (n : Nat), .int .i64 (sgn (w4 z 4)), .int .i64 (fa (sgn (w4 z 8))), .bool (decide (sgn (w4 z 8) < 0)), .int .i64 (w2 z 14 : Nat), .int .i64 (w4 z 16 : Nat), .int .i64 (clrC (w2 z 14 : Nat) (w4 z 32 : Nat)), .int .i64 0, .int .i64 0, .int .i64 0, .int .i64 0, .int .i64 ((0 : Nat)), .int .i64 ((0 + n : Nat)), .int .i64 0, .int .i64 0], .int .i64 (T.size : Nat)] u fun e w' => e = .returned (.agg MV) ∧ u.grownBy w' none := by
      by_cases h3 : w4 z 16 = 3
      · rw [h3]
        exact dmask_any T n hn hl _ _ _ _ _
      · exact ⟨_, ⟨_, _, _, _, _, _, _, _, _, _, _, _, _, _, _, rfl⟩, fun u => rmasks_none T _ _ _ _ _ _ _ 0 T.size _ u (by omega)⟩
    refine ⟨if K < 10 then badA (kdD K) (((0 : Nat) : Int) + plD n K) else MV, ?_, fun W => rlong_any n hn T z 0 T.size K _ _ _ _ _ _ _ MV W ⟨F, h12, by omega, by omega, by omega, by omega, by omega, rfl⟩ hz (by omega) (Nat.le_refl _) hsm hn4 rfl rfl rfl rfl rfl rfl KM hMV⟩
    split
    · exact bad_vis _ _
    · exact hMV
  · exact ⟨_, bad_vis _ _, fun W => rread_unknown T 0 T.size W (Nat.le_refl _) hsm (by omega) (by omega) n hn4 h16 h64 h12 (by omega) (by omega) (by omega) (by omega) (by omega)⟩

end Go.Proofs.YtikjfmpdfeaooaaDoor.Dh
