/- What heads of two formats have in common: a sign, two sides; the small calls. -/
import Derived.Test.YtjdhlehpoclnjaaGreatTok7
import Derived.Test.YtjdhlehpoclnjaaGreatSrcA
import Derived.Deep.LoopGhost
import Derived.Deep.RegionHeld3
namespace Go.Proofs.YtjdhlehpoclnjaaGreat.Sh
open Go.ChangeShapes Go.WideShapes Go.ChangeAt Go.RowKit
open Go.Proofs.YtjdhlehpoclnjaaGreat.Le Go.Proofs.YtjdhlehpoclnjaaGreat.Tk Go.Proofs.YtjdhlehpoclnjaaGreat.Sr
set_option linter.unusedVariables false

/-- The first K bytes are the sign's, and the next one, if there is one, isn't. -/
structure MK (sg s : ByteArray) (K : Nat) : Prop where
  le : K ≤ sg.size
  yes : ∀ j, j < K → bt s j = bt sg j
  no : K < sg.size → bt s K ≠ bt sg K
theorem mk_ex (sg s : ByteArray) : ∃ K, MK sg s K := by
  have : ∀ n, n ≤ sg.size → (∀ j, j < sg.size - n → bt s j = bt sg j) → ∃ K, MK sg s K := by
    intro n
    induction n with
    | zero => intro _ h; exact ⟨sg.size, Nat.le_refl _, h, fun h => absurd h (Nat.lt_irrefl _)⟩
    | succ n ih =>
      intro hn h
      by_cases hk : bt s (sg.size - (n + 1)) = bt sg (sg.size - (n + 1))
      · exact ih (by omega) (fun j hj => by
          by_cases e : j = sg.size - (n + 1)
          · rw [e]; exact hk
          · exact h j (by omega))
      · exact ⟨sg.size - (n + 1), by omega, h, fun _ => hk⟩
  exact this sg.size (Nat.le_refl _) (fun j hj => absurd hj (by omega))
/-- A number of four bytes. -/
def beV (s : ByteArray) (a : Nat) : Nat := Sr.numV true (s.extract a (a + 4))
theorem ex_size (s : ByteArray) (a : Nat) : (s.extract a (a + 4)).size ≤ 4 := by rw [ByteArray.size_extract]; omega
theorem beV_lt (s : ByteArray) (a : Nat) : beV s a < 4294967296 := num_lt true _ (ex_size s a)
theorem beV_bd (s : ByteArray) (a : Nat) : ((beV s a : Nat) : Int) < 4294967296 := by have := beV_lt s a; omega
/-- What is wrong with a side. -/
def sdK (n : Nat) : Nat := if n = 0 then 2 else if 16384 < n then 3 else 0
/-- What is wrong with a head's sign and sides, and where. -/
def kdS (m K w h : Nat) : Nat := if K < m then 2 else if sdK w ≠ 0 then sdK w else sdK h
def plS (m K w h : Nat) : Nat := if K < m then K else if sdK w ≠ 0 then m else if sdK h ≠ 0 then m + 4 else 0
theorem sdK_le (n : Nat) : sdK n ≤ 3 := by unfold sdK; split; omega; split <;> omega
theorem sdK_0 {n : Nat} (h : sdK n = 0) : 1 ≤ n ∧ n ≤ 16384 := by unfold sdK at h; split at h; omega; split at h <;> omega
theorem kdS_le (m K w h : Nat) : kdS m K w h ≤ 3 := by
  unfold kdS
  split
  · omega
  · split
    · exact sdK_le w
    · exact sdK_le h

theorem or_low (v c : Nat) (hv : v < 16777216) (hc : c < 256) : bits .or .i64 ((v : Int) * 256) (c : Int) = ((256 * v + c : Nat) : Int) := by
  have hn : (v * 256) ||| c = 256 * v + c := by
    have := Nat.shiftLeft_add_eq_or_of_lt (i := 8) (b := c) (by omega) v
    rw [show v * 256 = v <<< 8 from by rw [Nat.shiftLeft_eq], ← this, Nat.shiftLeft_eq]
    omega
  have h1 : (BitVec.ofInt 64 (c : Int)).toNat = c := by
    rw [BitVec.ofInt_natCast, BitVec.toNat_ofNat]; exact Nat.mod_eq_of_lt (by omega)
  have h2 : (BitVec.ofInt 64 ((v * 256 : Nat) : Int)).toNat = v * 256 := by
    rw [BitVec.ofInt_natCast, BitVec.toNat_ofNat]; exact Nat.mod_eq_of_lt (by omega)
  have e : (v : Int) * 256 = ((v * 256 : Nat) : Int) := by omega
  rw [e]
  show IntKind.i64.wrap ((BitVec.ofInt 64 ((v * 256 : Nat) : Int) ||| BitVec.ofInt 64 (c : Int)).toNat : Int) = _
  rw [BitVec.toNat_or, h1, h2, hn, IntKind.wrap_i64]
  omega

set_option maxRecDepth 100000 in
set_option maxHeartbeats 400000 in
theorem number_calls (z : ByteArray) (hz : 4 ≤ z.size) (w : World) :
    Calls Tryz.prog 120 #[.string z] w fun e w' => e = .returned (.int .i64 (beV z 0 : Nat)) ∧ w = w' := by
  have HL := Lib.hid (Lib.size_eq z)
  unfold beV Sr.numV
  have e0 : ordd true (z.extract 0 (0 + 4)).data.toList = z.data.toList.take 4 := by
    rw [Lib.extract_data]
    simp [ordd]
  rw [e0]
  clear e0
  go_enter Tryz.func120, Tryz.ntmps120
  go_wp2_with fail
  go_loopg [3, 5] 4 (fun q vv iv wr => ∃ k : Nat, k ≤ 4 ∧ q = 4 - k ∧ vv = .int .i64 (acc (z.data.toList.take k)) ∧ iv = .int .i64 k ∧ w = wr)
  case atStart => exact ⟨0, by omega, rfl, rfl, rfl, rfl⟩
  case round =>
    obtain ⟨k, hk, rfl, rfl, rfl, rfl⟩ := hrel
    by_cases hlt : k < 4
    · have hl := HL.out
      have hkz : k < z.size := by omega
      have st := acc_step true z.data.toList k (by omega)
      have lt := Nat.lt_of_lt_of_le (acc_lt (z.data.toList.take k)) (Nat.pow_le_pow_right (by decide) (show _ ≤ 3 from by rw [List.length_take]; omega))
      have eo : ordd true z.data.toList = z.data.toList := rfl
      rw [eo] at st
      obtain ⟨v, hv⟩ : ∃ v, acc (z.data.toList.take k) = v := ⟨_, rfl⟩
      rw [hv] at st lt ⊢
      have hi : nxt true z.data.toList.length k = k := rfl
      simp only [hi] at st
      rw [byte_at' z k hkz (by omega)] at st
      have b255 := (z[k]'hkz).toNat_lt
      obtain ⟨c, hcz⟩ : ∃ c, (z[k]'hkz).toNat = c := ⟨_, rfl⟩
      rw [hcz] at st b255
      have OR := or_low v c (Nat.lt_of_lt_of_le lt (by decide)) b255
      have lt2 : v < 16777216 := Nat.lt_of_lt_of_le lt (by decide)
      have s1 : IntKind.i64.wrap ((v : Int) * 256) = (v : Int) * 256 := by rw [IntKind.wrap_i64]; omega
      have s2 : wrap64 ((v : Int) * 256) = (v : Int) * 256 := IntWalk.wrap64_in _ (by omega)
      have d4 : decide ((k : Int) < 4) = true := decide_eq_true (by omega)
      clear lt lt2
      have ST := Lib.hid st
      clear st hv hi hl eo hz
      go_wp2
      go_roundg (4 - (k + 1))
      case measure => omega
      case rel => exact ⟨k + 1, by omega, rfl, by rw [ST.out]; go_num, by go_num, rfl⟩
    · have hkn : k = 4 := by omega
      subst hkn
      go_wp2
      go_ret
      exact ⟨rfl, rfl⟩

theorem side_calls (n : Nat) (W : World) : Calls Tryz.prog 119 #[.int .i64 n] W fun e w' => e = .returned (.int .i64 (sdK n : Nat)) ∧ W = w' := by
  unfold sdK
  by_cases h0 : n = 0
  · subst h0
    rw [if_pos rfl]
    go_enter Tryz.func119, Tryz.ntmps119
    go_wp2
    go_ret
    exact ⟨rfl, rfl⟩
  · rw [if_neg h0]
    have d0 : ((n : Int) == 0) = false := by rw [beq_eq_false_iff_ne]; omega
    have d0' : ¬ (n : Int) = 0 := by omega
    by_cases h1 : 16384 < n
    · rw [if_pos h1]
      have d1 : decide ((16384 : Int) < (n : Int)) = true := decide_eq_true (by omega)
      clear h0
      go_enter Tryz.func119, Tryz.ntmps119
      go_wp2
      go_ret
      exact ⟨rfl, rfl⟩
    · rw [if_neg h1]
      have d1 : decide ((16384 : Int) < (n : Int)) = false := decide_eq_false (by omega)
      clear h0
      go_enter Tryz.func119, Tryz.ntmps119
      go_wp2
      go_ret
      exact ⟨rfl, rfl⟩

theorem ex_ex (b : ByteArray) (m a : Nat) (h : m + a + 4 ≤ b.size) : beV (b.extract m b.size) a = beV b (m + a) := by
  unfold beV
  rw [ByteArray.extract_extract]
  congr 2
  all_goals omega

set_option maxRecDepth 100000 in
set_option maxHeartbeats 400000 in
theorem sides_calls (b sg : ByteArray) (h : sg.size + 8 ≤ b.size) (W : World) :
    Calls Tryz.prog 96 #[.string b, .string sg] W fun e w' => e = .returned (.tuple #[.int .i64 (beV b sg.size : Nat), .int .i64 (beV b (sg.size + 4) : Nat)]) ∧ W.grownBy w' none := by
  have hz : (b.extract sg.size b.size).size = b.size - sg.size := by rw [ByteArray.size_extract]; omega
  have hz4 : 4 ≤ (b.extract sg.size b.size).size := by omega
  have hz8 : 4 ≤ ((b.extract sg.size b.size).extract 4 (b.extract sg.size b.size).size).size := by rw [ByteArray.size_extract]; omega
  have l1 : sg.size ≤ b.size := by omega
  have K1 := fun u => number_calls (b.extract sg.size b.size) hz4 u
  have K2 := fun u => number_calls ((b.extract sg.size b.size).extract 4 (b.extract sg.size b.size).size) hz8 u
  have e1 : beV (b.extract sg.size b.size) 0 = beV b sg.size := ex_ex b sg.size 0 (by omega)
  have e2 : beV ((b.extract sg.size b.size).extract 4 (b.extract sg.size b.size).size) 0 = beV b (sg.size + 4) :=
    (ex_ex (b.extract sg.size b.size) 4 0 (by omega)).trans (ex_ex b sg.size 4 (by omega))
  rw [e1] at K1
  rw [e2] at K2
  obtain ⟨w, hw⟩ : ∃ w, beV b sg.size = w := ⟨_, rfl⟩
  obtain ⟨g, hg⟩ : ∃ w, beV b (sg.size + 4) = w := ⟨_, rfl⟩
  rw [hw] at K1 ⊢
  rw [hg] at K2 ⊢
  have K1 := Lib.hid K1
  have K2 := Lib.hid K2
  clear hw hg e1 e2 hz hz8
  go_enter Tryz.func96, Tryz.ntmps96
  go_wp2_with fail
  generalize b.extract sg.size b.size = b1 at K1 K2 hz4 ⊢
  go_quiet ((first
    | (go_at_call 120; with_reducible exact Calls.quiet_of_same ((K1.out _).mono (fun _ _ h => ⟨h.1, h.2.symm⟩)))
    | (go_at_call 120; with_reducible exact Calls.quiet_of_same ((K2.out _).mono (fun _ _ h => ⟨h.1, h.2.symm⟩)))))
  go_wp2
  go_ret2
  exact ⟨rfl, gb_drewN _ _ _⟩

end Go.Proofs.YtjdhlehpoclnjaaGreat.Sh
