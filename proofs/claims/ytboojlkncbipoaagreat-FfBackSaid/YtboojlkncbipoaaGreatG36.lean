/- Texts of one kind, one behind the other: Fp1. -/
import Derived.Test.YtboojlkncbipoaaGreatG20
import Derived.Test.YtboojlkncbipoaaGreatG34
/- Layer 27: what Write writes is a good file, and its raster is the image's. -/
namespace Go.Proofs.YtboojlkncbipoaaGreat.Fp
open Go.ChangeShapes Go.WideShapes Go.ChangeAt Go.RowKit
open Go.Proofs.YtboojlkncbipoaaGreat.Le Go.Proofs.YtboojlkncbipoaaGreat.Tk Go.Proofs.YtboojlkncbipoaaGreat.Sr Go.Proofs.YtboojlkncbipoaaGreat.Sc Go.Proofs.YtboojlkncbipoaaGreat.Sh Go.Proofs.YtboojlkncbipoaaGreat.Ff Go.Proofs.YtboojlkncbipoaaGreat.Fw Go.Proofs.YtboojlkncbipoaaGreat.Am
set_option linter.unusedVariables false

theorem ba_ext {a b : ByteArray} (h : a.data.toList = b.data.toList) : a = b := by
  cases a
  cases b
  congr 1
  exact Array.ext' h
theorem dup_get : ∀ (L : List UInt8) (m : Nat), (dup L).getD (2 * m) 0 = L.getD m 0 ∧ (dup L).getD (2 * m + 1) 0 = L.getD m 0
  | [], m => by simp [dup]
  | b :: L, 0 => by simp [dup]
  | b :: L, m + 1 => by
    have h := dup_get L m
    have e1 : 2 * (m + 1) = 2 * m + 1 + 1 := by omega
    rw [e1]
    simpa [dup] using h
section
variable (X Y : Nat) (S : ByteArray)
theorem T_list : (ffT X Y S).data.toList = hdL ffS X Y 2 ++ dup S.data.toList := by
  unfold ffT ffL
  have : S.size = S.data.toList.length := rfl
  rw [this, List.take_length]
theorem hd_list : hdL ffS X Y 2 = [102, 97, 114, 98, 102, 101, 108, 100] ++ b4 X ++ b4 Y := by simp [hdL, ffS]
theorem hd_len : (hdL ffS X Y 2).length = 16 := by rw [hd_list]; simp [b4]
theorem T_size : (ffT X Y S).size = 16 + 2 * S.size := by
  rw [Lib.size_eq, T_list, List.length_append, hd_len, dup_len]
  rfl
theorem T_bt (m : Nat) : bt (ffT X Y S) (16 + 2 * m) = bt S m ∧ bt (ffT X Y S) (16 + 2 * m + 1) = bt S m := by
  have h := dup_get S.data.toList m
  unfold bt
  have hr : ∀ i, (hdL ffS X Y 2 ++ dup S.data.toList).getD (16 + i) 0 = (dup S.data.toList).getD i 0 := fun i => by
    rw [List.getD_eq_getElem?_getD, List.getElem?_append_right (by rw [hd_len]; omega), hd_len, List.getD_eq_getElem?_getD, show 16 + i - 16 = i by omega]
  rw [T_list, hr, show 16 + 2 * m + 1 = 16 + (2 * m + 1) by omega, hr, h.1, h.2]
  exact ⟨rfl, rfl⟩
theorem T_mk : MK sgF (ffT X Y S) 8 where
  le := Nat.le_refl _
  yes := fun j hj => by
    unfold bt
    rw [T_list, hd_list]
    have : j = 0 ∨ j = 1 ∨ j = 2 ∨ j = 3 ∨ j = 4 ∨ j = 5 ∨ j = 6 ∨ j = 7 := by omega
    rcases this with rfl | rfl | rfl | rfl | rfl | rfl | rfl | rfl <;> rfl
  no := fun h => absurd h (Nat.lt_irrefl _)
theorem acc_b4 (x : Nat) (hx : x < 4294967296) : acc (b4 x) = x := by
  simp [acc, b4, UInt8.toNat_ofNat']
  omega
theorem T_w (hX : X < 4294967296) : beV (ffT X Y S) 8 = X := by
  have : ((ffT X Y S).extract 8 (8 + 4)).data.toList = b4 X := by
    rw [Lib.extract_data, T_list, hd_list]
    rfl
  unfold beV Sr.numV
  rw [this]
  exact acc_b4 X hX
theorem T_h (hY : Y < 4294967296) : beV (ffT X Y S) 12 = Y := by
  have : ((ffT X Y S).extract 12 (12 + 4)).data.toList = b4 Y := by
    rw [Lib.extract_data, T_list, hd_list]
    rfl
  unfold beV Sr.numV
  rw [this]
  exact acc_b4 Y hY
theorem T_c (k j : Nat) (h : 4 * k + j < S.size) : cF (ffT X Y S) k j = (bt S (4 * k + j) : Nat) := by
  have h1 := T_bt X Y S (4 * k + j)
  have h2 := n2_is (ffT X Y S) (16 + 2 * (4 * k + j)) (by rw [T_size]; omega)
  rw [h1.1, h1.2] at h2
  unfold cF nf
  rw [show 16 + 8 * k + 2 * j = 16 + 2 * (4 * k + j) by omega, h2]
  have h3 := Tk.bt_lt S (4 * k + j)
  unfold near
  omega
end
theorem getD_u8 (S : ByteArray) (k : Nat) : UInt8.ofNat (((bt S k : Nat) : Int)).toNat = S.data.toList.getD k 0 := by
  unfold bt
  simp
theorem rk_list (S : ByteArray) (C : Nat → Nat → Int) (n : Nat) (hs : S.size = 4 * n) (hC : ∀ k j, k < n → j < 4 → C k j = (bt S (4 * k + j) : Nat)) : ∀ k, k ≤ n → (rk C n k).data.toList = S.data.toList.take (4 * k) ++ List.replicate (4 * (n - k)) 0
  | 0, _ => by
    show (Bu.rep 0 (4 * n)).data.toList = _
    simp [Bu.rep]
  | k + 1, h => by
    have ih := rk_list S C n hs hC k (by omega)
    have hl : S.data.toList.length = 4 * n := by rw [← Lib.size_eq]; exact hs
    show (Bu.putS (rk C n k) (fB C k) (4 * k)).data.toList = _
    rw [Bu.putS_list, ih, fB_size]
    have h1 : (S.data.toList.take (4 * k)).length = 4 * k := by rw [List.length_take]; omega
    have e4 : (fB C k).data.toList = [S.data.toList.getD (4 * k) 0, S.data.toList.getD (4 * k + 1) 0, S.data.toList.getD (4 * k + 2) 0, S.data.toList.getD (4 * k + 3) 0] := by
      unfold fB
      rw [hC k 0 (by omega) (by decide), hC k 1 (by omega) (by decide), hC k 2 (by omega) (by decide), hC k 3 (by omega) (by decide), getD_u8, getD_u8, getD_u8, getD_u8]
      rfl
    rw [e4, List.take_append_of_le_length (by omega), List.take_of_length_le (by omega), List.drop_append, List.drop_eq_nil_of_le (by omega), List.nil_append, List.drop_replicate, h1]
    rw [show 4 * (n - k) - (4 * k + 4 - 4 * k) = 4 * (n - (k + 1)) by omega, show 4 * (k + 1) = 4 * k + 1 + 1 + 1 + 1 by omega]
    rw [List.take_succ_eq_append_getElem (by omega), List.take_succ_eq_append_getElem (by omega), List.take_succ_eq_append_getElem (by omega), List.take_succ_eq_append_getElem (by omega)]
    rw [List.getD_eq_getElem?_getD, List.getD_eq_getElem?_getD, List.getD_eq_getElem?_getD, List.getD_eq_getElem?_getD, List.getElem?_eq_getElem (show 4 * k < S.data.toList.length by omega), List.getElem?_eq_getElem (show 4 * k + 1 < S.data.toList.length by omega), List.getElem?_eq_getElem (show 4 * k + 2 < S.data.toList.length by omega), List.getElem?_eq_getElem (show 4 * k + 3 < S.data.toList.length by omega)]
    simp
theorem T_rk (X Y : Nat) (S : ByteArray) (n : Nat) (hs : S.size = 4 * n) : rk (cF (ffT X Y S)) n n = S := by
  refine ba_ext ?_
  rw [rk_list S _ n hs (fun k j hk hj => T_c X Y S k j (by omega)) n (Nat.le_refl _)]
  have hl : S.data.toList.length = 4 * n := by rw [← Lib.size_eq]; exact hs
  rw [← hl, List.take_length]
  simp
/-- The written file is good. -/
theorem T_good (X Y : Nat) (S : ByteArray) (n : Nat) (hn : X * Y = n) (hs : S.size = 4 * n) (h1 : 1 ≤ X) (h2 : X ≤ 16384) (h3 : 1 ≤ Y) (h4 : Y ≤ 16384) : Cl (ffT X Y S) ⟨0, 0, X, Y, 1 + 2 * n, S⟩ := by
  have hk : kdS 8 8 X Y = 0 := by
    have s1 : sdK X = 0 := by unfold sdK; rw [if_neg (by omega), if_neg (by omega)]
    have s2 : sdK Y = 0 := by unfold sdK; rw [if_neg (by omega), if_neg (by omega)]
    unfold kdS
    rw [if_neg (by omega), s1, s2]
    rfl
  have := Cl.good (s := ffT X Y S) n X Y (by rw [T_size]; omega) (T_mk X Y S) (T_w X Y S (by omega)) (T_h X Y S (by omega)) hk hn (by rw [T_size]; omega)
  rwa [T_rk X Y S n hs] at this

end Go.Proofs.YtboojlkncbipoaaGreat.Fp
