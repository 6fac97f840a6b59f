/- Layer 3's answer: Digits, Text. -/
import Derived.Test.YtdcmbjhjfdjdhaaDoorFau9
namespace Go.Proofs.YtdcmbjhjfdjdhaaDoor.Fa
open Go.ChangeShapes Go.WideShapes Go.ChangeAt Go.RowKit
open Go.Proofs.YtdcmbjhjfdjdhaaDoor.Le
set_option linter.unusedVariables false

theorem str_part (s : ByteArray) (i n : Nat) (h : i + n ≤ s.size) (w : World) :
    (Instr.slice 9 (.string s) (some (.int .i64 (i : Int))) (some (.int .i64 ((i : Int) + n))) none).run Tryd.prog w = .ok (.string (s.extract i (i + n))) w := by
  have ht' : Tryd.prog.underlying 9 = some .string := by kernel_rfl
  have e : ((i : Int) + n).toNat = i + n := by omega
  simp [Instr.slice, run_underlying ht', Instr.sliceBounds, run_sliceBound, Result.andThen, show (i : Int) + n ≤ s.size by omega, show (0 : Int) ≤ i + n by omega, e]
  rw [run_sliceBound _ _ _ _ _ (by omega) (by omega)]
  simp
theorem dig_ex : ∀ i : Fin 10, (⟨#[48, 49, 50, 51, 52, 53, 54, 55, 56, 57]⟩ : ByteArray).extract i.1 (i.1 + 1) = ⟨#[UInt8.ofNat (48 + i.1)]⟩ := by decide
theorem dig_at (i : Nat) (h : i < 10) (w : World) :
    (Instr.slice 9 (.string ⟨#[48, 49, 50, 51, 52, 53, 54, 55, 56, 57]⟩) (some (.int .i64 (i : Int))) (some (.int .i64 ((i : Int) + 1))) none).run Tryd.prog w = .ok (.string ⟨#[UInt8.ofNat (48 + i)]⟩) w := by
  rw [← dig_ex ⟨i, h⟩]
  exact str_part _ i 1 (by show i + 1 ≤ 10; omega) w
theorem cat_dig (l : List UInt8) (b : UInt8) : (⟨l.toArray⟩ : ByteArray) ++ ⟨#[b]⟩ = ⟨(l ++ [b]).toArray⟩ := by
  apply ByteArray.ext
  simp only [ByteArray.data_append]
  simp

set_option maxRecDepth 100000 in
set_option maxHeartbeats 4000000 in
theorem rdigits_calls (n : Nat) : n ≤ 9223372036854775807 → ∀ w, Calls Tryd.prog 27 #[.int .i64 n] w
    fun e w' => e = .returned (.string ⟨(Lib.decDigits n).toArray⟩) ∧ w.grownBy w' none := by
  induction n using Nat.strongRecOn with
  | _ n ih =>
    intro hn w
    rw [Lib.decDigits]
    by_cases h : n < 10
    · rw [dif_pos h]
      have h1 : (n : Int) < 10 := by omega
      have hd := dig_at n h
      obtain ⟨b, hb⟩ : ∃ b, UInt8.ofNat (48 + n) = b := ⟨_, rfl⟩
      rw [hb] at hd ⊢
      clear ih hb
      go_enter Tryd.func27, Tryd.ntmps27
      go_wp2
      go_ret
      exact ⟨rfl, gb_refl _ _⟩
    · rw [dif_neg h]
      have h1 : ¬ (n : Int) < 10 := by omega
      have q1 : ((n / 10 : Nat) : Int) = (n : Int) / 10 := by omega
      have q2 : ((n % 10 : Nat) : Int) = (n : Int) % 10 := by omega
      have IH := ih (n / 10) (by omega) (by omega)
      have hd := dig_at (n % 10) (by omega)
      rw [q1] at IH
      rw [q2] at hd
      have e1 : IntKind.i64.wrap ((n : Int) / 10) = (n : Int) / 10 := IntWalk.i64_in _ (by omega)
      have e2 : IntKind.i64.wrap ((n : Int) % 10) = (n : Int) % 10 := IntWalk.i64_in _ (by omega)
      have e3 : IntKind.i64.wrap ((n : Int) % 10 + 1) = (n : Int) % 10 + 1 := IntWalk.i64_in _ (by omega)
      have e4 : (n : Int).tdiv 10 = (n : Int) / 10 := Int.tdiv_eq_ediv_of_nonneg (by omega)
      have e5 : (n : Int).tmod 10 = (n : Int) % 10 := Int.tmod_eq_emod_of_nonneg (by omega)
      have hz : (⟨(Lib.decDigits (n / 10)).toArray⟩ : ByteArray).size ≤ 20 := by
        rw [Lib.size_eq]
        show (Lib.decDigits (n / 10)).length ≤ 20
        rw [Lib.decDigits_length]
        exact Lib.nDigits_le20 _ (by omega)
      have hc := cat_dig (Lib.decDigits (n / 10)) (UInt8.ofNat (48 + n % 10))
      obtain ⟨D, hD⟩ : ∃ D, (⟨(Lib.decDigits (n / 10)).toArray⟩ : ByteArray) = D := ⟨_, rfl⟩
      obtain ⟨b, hb⟩ : ∃ b, UInt8.ofNat (48 + n % 10) = b := ⟨_, rfl⟩
      rw [hb] at hc hd ⊢
      rw [hD] at hc hz IH
      have IH := Lib.hid IH
      rw [← hc]
      have hz1 : ¬ 9223372036854775807 < D.size + 1 := by omega
      clear ih hD hc hb q1 q2
      go_enter Tryd.func27, Tryd.ntmps27
      go_wp2_with fail
      go_region_held3 (fun _ => True) (go_keep) (first | (go_at_call 27; refine (IH.out _).mono ?_; rintro e w2 ⟨rfl, g2⟩; have G2 := Lib.hid (gb_trans (gb_drew _ _) g2)))
      all_goals
        go_wp2
        go_ret
        exact ⟨rfl, G2.out⟩

set_option maxRecDepth 100000 in
set_option maxHeartbeats 4000000 in
theorem rtext_go (k x a : Int) (w : World) (A B N : ByteArray) (hA : A.size ≤ 11) (hB : B.size ≤ 7) (hN : N.size ≤ 21)
    (K1 : ∀ w, Calls Tryd.prog 10 #[.int .i64 k] w fun e w' => e = .returned (.string A) ∧ w.grownBy w' none)
    (K2 : ∀ w, Calls Tryd.prog 12 #[.int .i64 x] w fun e w' => e = .returned (.string B) ∧ w.grownBy w' none)
    (K3 : ∀ w, Calls Tryd.prog 27 #[.int .i64 a] w fun e w' => e = .returned (.string N) ∧ w.grownBy w' none) :
    Calls Tryd.prog 15 #[.int .i64 k, .int .i64 x, .int .i64 a] w
      fun e w' => e = .returned (.string (A ++ ⟨#[32]⟩ ++ B ++ ⟨#[32]⟩ ++ N)) ∧ w.grownBy w' none := by
  have K1 := Lib.hid K1
  have K2 := Lib.hid K2
  have K3 := Lib.hid K3
  have s1 : ¬ 9223372036854775807 < A.size + 1 := by omega
  have s2 : ¬ 9223372036854775807 < A.size + 1 + B.size := by omega
  have s3 : ¬ 9223372036854775807 < A.size + 1 + B.size + 1 := by omega
  have s4 : ¬ 9223372036854775807 < A.size + 1 + B.size + 1 + N.size := by omega
  go_enter Tryd.func15, Tryd.ntmps15
  go_wp2_with fail
  refine (K1.out _).mono ?_
  rintro e w2 ⟨rfl, g2⟩
  have G2 := Lib.hid g2
  clear g2
  go_wp2_with fail
  refine (K2.out _).mono ?_
  rintro e w3 ⟨rfl, g3⟩
  have G3 := Lib.hid (gb_trans G2.out g3)
  clear g3
  go_wp2_with fail
  refine (K3.out _).mono ?_
  rintro e w4 ⟨rfl, g4⟩
  have G4 := Lib.hid (gb_trans G3.out g4)
  clear g4
  go_wp2
  go_ret
  exact ⟨rfl, G4.out⟩

/-- The document's text. -/
theorem rtext_calls (k x : Int) (a : Nat) (ha : a ≤ 9223372036854775807) (w : World) :
    Calls Tryd.prog 15 #[.int .i64 k, .int .i64 x, .int .i64 a] w
      fun e w' => e = .returned (.string (kw k ++ ⟨#[32]⟩ ++ fw x ++ ⟨#[32]⟩ ++ ⟨(Lib.decDigits a).toArray⟩)) ∧ w.grownBy w' none := by
  refine rtext_go k x a w (kw k) (fw x) _ (kw_size k) (fw_size x) ?_ (fun w => ?_) (fun w => ?_) (fun w => rdigits_calls a ha w)
  · rw [Lib.size_eq]
    show (Lib.decDigits a).length ≤ 21
    rw [Lib.decDigits_length]
    exact Nat.le_trans (Lib.nDigits_le20 _ (by omega)) (by omega)
  · exact rkind_calls k w
  · exact rformat_calls x w

end Go.Proofs.YtdcmbjhjfdjdhaaDoor.Fa
