/- Texts of one kind, one behind the other: Src4, Src5, SrcA, Dh1, Dh2, DiN. -/
import Derived.Deep.LoopGhost
import Derived.Laws.BitsAllLaws
import Derived.Lib.BufferWrite
import Derived.Lib.RabinKarpLaws
import Derived.Test.YtikjfmpdfeaooaaDoorG05
/- Package src: numbers are put together of bytes. -/
namespace Go.Proofs.YtikjfmpdfeaooaaDoor.Sr
open Go.ChangeShapes Go.WideShapes Go.ChangeAt Go.RowKit
open Go.Proofs.YtikjfmpdfeaooaaDoor.Le
set_option linter.unusedVariables false

/-- The number of some bytes, the highest first. -/
def acc (z : List UInt8) : Nat := z.foldl (fun v c => 256 * v + c.toNat) 0
/-- Bytes in the order in which they weigh, the highest first. -/
def ordd (o : Bool) (z : List UInt8) : List UInt8 := if o then z else z.reverse
theorem acc_snoc (z : List UInt8) (c : UInt8) : acc (z ++ [c]) = 256 * acc z + c.toNat := by simp [acc, List.foldl_append]
theorem acc_lt' (z : List UInt8) : acc z.reverse < 256 ^ z.length := by
  induction z with
  | nil => simp [acc]
  | cons c z ih =>
    rw [List.reverse_cons, acc_snoc, List.length_cons, Nat.pow_succ]
    have := c.toNat_lt
    omega
theorem acc_lt (z : List UInt8) : acc z < 256 ^ z.length := by
  have h := acc_lt' z.reverse
  rwa [List.reverse_reverse, List.length_reverse] at h
theorem ordd_len (o : Bool) (z : List UInt8) : (ordd o z).length = z.length := by unfold ordd; split <;> simp
/-- The number of bytes, in an order. -/
def numV (o : Bool) (z : ByteArray) : Nat := acc (ordd o z.data.toList)
/-- Which byte is taken in round k. -/
def nxt (o : Bool) (n k : Nat) : Nat := if o then k else n - 1 - k
theorem nxt_lt (o : Bool) {n k : Nat} (h : k < n) : nxt o n k < n := by unfold nxt; split <;> omega
theorem ordd_at (o : Bool) (z : List UInt8) (k : Nat) (h : k < z.length) : (ordd o z)[k]'(by rw [ordd_len]; exact h) = z[nxt o z.length k]'(nxt_lt o h) := by
  cases o with
  | true => rfl
  | false => simp [ordd, nxt, List.getElem_reverse]
theorem acc_step (o : Bool) (z : List UInt8) (k : Nat) (h : k < z.length) : acc ((ordd o z).take (k + 1)) = 256 * acc ((ordd o z).take k) + (z[nxt o z.length k]'(nxt_lt o h)).toNat := by
  rw [← ordd_at o z k h, List.take_succ_eq_append_getElem (by rw [ordd_len]; exact h), acc_snoc]

theorem wraps_u32 (n : Int) (h₀ : 0 ≤ n) (h₁ : n < 2 ^ 32) : IntKind.u32.wrap n = n := by rw [IntKind.wrap_u32]; omega
theorem acc_lt4 (z : List UInt8) (h : z.length ≤ 4) : acc z < 4294967296 :=
  Nat.lt_of_lt_of_le (acc_lt z) (Nat.le_trans (Nat.pow_le_pow_right (by decide) h) (by decide))

/-- A number of four bytes with a sign. -/
def sgn (v : Nat) : Int := if 2147483648 ≤ v then (v : Int) - 4294967296 else v
end Go.Proofs.YtikjfmpdfeaooaaDoor.Sr

/- Package src: the six numbers. -/
namespace Go.Proofs.YtikjfmpdfeaooaaDoor.Sr
open Go.ChangeShapes Go.WideShapes Go.ChangeAt Go.RowKit
open Go.Proofs.YtikjfmpdfeaooaaDoor.Le
set_option linter.unusedVariables false

end Go.Proofs.YtikjfmpdfeaooaaDoor.Sr

/- Layer 5's answers: numbers of bytes; and the chapter's example. -/
namespace Go.Proofs.YtikjfmpdfeaooaaDoor.Sr
open Go.ChangeShapes Go.WideShapes Go.ChangeAt Go.RowKit
open Go.Proofs.YtikjfmpdfeaooaaDoor.Le
set_option linter.unusedVariables false

set_option maxRecDepth 100000 in
set_option maxHeartbeats 2000000 in
theorem rle_calls (z : ByteArray) (w : World) (hz : z.size ≤ 4) :
    Calls Tryd.prog 29 #[.string z] w fun e w' => e = .returned (.int .i64 (numV false z)) ∧ w = w' := by
  have HL := Lib.hid (Lib.size_eq z)
  go_enter Tryd.func29, Tryd.ntmps29
  go_wp2_with fail
  go_loopg [3, 4] z.size (fun q vv iv wr => ∃ k : Nat, k ≤ z.size ∧ q = z.size - k ∧ vv = .int .i64 (acc ((ordd false z.data.toList).take k)) ∧ iv = .int .i64 ((z.size : Int) - 1 - k) ∧ w = wr)
  case atStart => exact ⟨0, by omega, rfl, rfl, by simp, rfl⟩
  case round =>
    obtain ⟨k, hk, rfl, rfl, rfl, rfl⟩ := hrel
    by_cases hlt : k < z.size
    · have hlt2 : z.size - 1 - k < z.size := by omega
      have hl := HL.out
      have st := acc_step false z.data.toList k (by omega)
      have lt := Nat.lt_of_lt_of_le (acc_lt ((ordd false z.data.toList).take k)) (Nat.pow_le_pow_right (by decide) (show _ ≤ 3 from by rw [List.length_take]; omega))
      obtain ⟨v, hv⟩ : ∃ v, acc ((ordd false z.data.toList).take k) = v := ⟨_, rfl⟩
      rw [hv] at st lt ⊢
      have hi : nxt false z.data.toList.length k = z.size - 1 - k := by unfold nxt; rw [if_neg (by decide)]; omega
      simp only [hi] at st
      rw [byte_at' z (z.size - 1 - k) hlt2 (by omega)] at st
      have b255 := (z[z.size - 1 - k]'hlt2).toNat_lt
      obtain ⟨c, hcz⟩ : ∃ c, (z[z.size - 1 - k]'hlt2).toNat = c := ⟨_, rfl⟩
      rw [hcz] at st b255
      have ST := Lib.hid st
      clear st hv hi hl
      go_wp2
      go_roundg (z.size - (k + 1))
      case measure => omega
      case rel => exact ⟨k + 1, by omega, rfl, by rw [ST.out]; go_num, by simp; omega, rfl⟩
    · have hl := HL.out
      have hkn : k = z.size := by omega
      have e1 : (ordd false z.data.toList).take k = ordd false z.data.toList := List.take_of_length_le (by rw [ordd_len]; omega)
      rw [e1]
      clear e1 hl
      go_wp2
      go_ret
      exact ⟨rfl, rfl⟩

theorem num_lt (o : Bool) (z : ByteArray) (h : z.size ≤ 4) : numV o z < 4294967296 := acc_lt4 _ (by rw [ordd_len, ← Lib.size_eq]; exact h)

set_option maxRecDepth 100000 in
theorem rsigned_calls (z : ByteArray) (w : World) (hz : z.size ≤ 4) :
    Calls Tryd.prog 31 #[.string z] w fun e w' => e = .returned (.int .i64 (sgn (numV false z))) ∧ w = w' := by
  have hK := Lib.hid (rle_calls z w hz)
  have hn := num_lt false z hz
  obtain ⟨v, hv⟩ : ∃ v, numV false z = v := ⟨_, rfl⟩
  rw [hv] at hK hn ⊢
  clear hv
  unfold sgn
  have hn' : (v : Int) < 4294967296 := by omega
  clear hn
  by_cases h : 2147483648 ≤ v
  · rw [if_pos h]
    have h' : (2147483648 : Int) ≤ v := by omega
    clear h
    obtain ⟨V, hV⟩ : ∃ V : Int, (v : Int) = V := ⟨_, rfl⟩
    rw [hV] at hK hn' h' ⊢
    clear hV
    go_enter Tryd.func31, Tryd.ntmps31
    go_wp2_with fail
    refine hK.out.mono ?_
    rintro e w1 ⟨rfl, rfl⟩
    go_wp2
    go_ret
    exact ⟨rfl, rfl⟩
  · rw [if_neg h]
    have h' : (v : Int) < 2147483648 := by omega
    clear h
    obtain ⟨V, hV⟩ : ∃ V : Int, (v : Int) = V := ⟨_, rfl⟩
    rw [hV] at hK hn' h' ⊢
    clear hV
    go_enter Tryd.func31, Tryd.ntmps31
    go_wp2_with fail
    refine hK.out.mono ?_
    rintro e w1 ⟨rfl, rfl⟩
    go_wp2
    go_ret
    exact ⟨rfl, rfl⟩

/-- A ledger of m steps of which n are done; nothing was refused. -/
def LW (m n : Int) : St := { w := 0, h := 0, b := 0, s := m, by_ := 0, pk := 0, st := n, r := 0, a := 0 }
theorem LW_ok {m n : Int} (hm : m ≤ 9223372036854775807) (n0 : 0 ≤ n) (nm : n ≤ m) : (LW m n).Ok :=
  ⟨by show (0 : Int) ≤ 0; decide, by show (0 : Int) ≤ _; decide, by show (0 : Int) ≤ 0; decide, by show (0 : Int) ≤ _; decide, by show (0 : Int) ≤ _; decide, hm, Int.le_refl _, Int.le_refl _, Int.le_refl _, n0, nm, by show (0 : Int) ≤ 0; decide, by show (0 : Int) ≤ 3; decide⟩
theorem LW_work {m n : Int} (h : n < m) : (LW m n).work 1 = (LW m (n + 1), true) := by
  unfold St.work
  rw [if_neg (by simp [LW]), if_neg (by simp only [LW]; omega)]
  simp [LW]
theorem LW_new {m : Int} (h : 0 ≤ m) : St.new 0 0 0 m = LW m 0 := by
  have e : pos m = m := by unfold pos; rw [if_neg (by omega)]
  have e0 : pos 0 = 0 := rfl
  simp [St.new, LW, e, e0]
theorem LW_rd {m k : Int} {p t : Nat} {n : Int} (h : k < m) (h0 : 0 ≤ n) (h1 : n ≤ (t : Int) - p) : rdB (LW m k) p t n = true := by
  unfold rdB
  rw [LW_work h]
  simp [canB, h0, h1]
/-- A new ledger of m steps. -/
theorem wnew_calls (m : Int) (h0 : 0 ≤ m) (w : World) :
    Calls Tryd.prog 20 #[.agg #[.int .i64 0, .int .i64 0, .int .i64 0, .int .i64 m]] w
      fun e w' => ∃ b, e = .returned (.pointer (some ⟨b, 0, none⟩)) ∧ Led b (LW m 0).ls w' ∧ w.grownBy w' none ∧ w.heap.size ≤ b := by
  have h := new_calls 0 0 0 m w
  rwa [LW_new h0] at h

end Go.Proofs.YtikjfmpdfeaooaaDoor.Sr

/- Layer 20, pure: what a head's bytes tell, and what is wrong with them; the small tests (written by wip/gen/dh1.py). -/
namespace Go.Proofs.YtikjfmpdfeaooaaDoor.Dh
open Go.ChangeShapes Go.WideShapes Go.ChangeAt Go.RowKit
open Go.Proofs.YtikjfmpdfeaooaaDoor.Le Go.Proofs.YtikjfmpdfeaooaaDoor.Sr
set_option linter.unusedVariables false

/-- Byte i of a text, as a number; two bytes, four bytes, the lowest first. -/
def bn (s : ByteArray) (i : Nat) : Nat := (s.data.toList.getD i 0).toNat
def w2 (s : ByteArray) (i : Nat) : Nat := bn s i + 256 * bn s (i + 1)
def w4 (s : ByteArray) (i : Nat) : Nat := bn s i + 256 * bn s (i + 1) + 65536 * bn s (i + 2) + 16777216 * bn s (i + 3)
theorem bn_at (s : ByteArray) (k : Nat) (h : k < s.size) : (s[k]'h).toNat = bn s k := by
  have h1 := Go.Proofs.byte_at s k h
  unfold bn
  rw [List.getD_eq_getElem?_getD, h1]
  rfl
theorem bn_lt (s : ByteArray) (k : Nat) : bn s k < 256 := UInt8.toNat_lt _
theorem w2_lt (s : ByteArray) (i : Nat) : w2 s i < 65536 := by
  have h1 := bn_lt s i
  have h2 := bn_lt s (i + 1)
  unfold w2
  omega
theorem w4_lt (s : ByteArray) (i : Nat) : w4 s i < 4294967296 := by
  have h1 := bn_lt s i
  have h2 := bn_lt s (i + 1)
  have h3 := bn_lt s (i + 2)
  have h4 := bn_lt s (i + 3)
  unfold w4
  omega
theorem bn_ext (s : ByteArray) (p q i : Nat) (hq : q ≤ s.size) (hi : p + i < q) : bn (s.extract p q) i = bn s (p + i) := by
  unfold bn
  rw [Lib.extract_data, List.getD_eq_getElem?_getD, List.getD_eq_getElem?_getD, List.getElem?_take_of_lt (by omega), List.getElem?_drop]
theorem w4_ext (s : ByteArray) (p q i : Nat) (hq : q ≤ s.size) (hi : p + i + 3 < q) : w4 (s.extract p q) i = w4 s (p + i) := by
  unfold w4
  rw [bn_ext s p q i hq (by omega), bn_ext s p q (i + 1) hq (by omega), bn_ext s p q (i + 2) hq (by omega), bn_ext s p q (i + 3) hq (by omega)]
  rfl

/-- A head's numbers, by its bytes; those of twelve bytes have no method and no colours. -/
def nW (z : ByteArray) : Int := if z.size = 12 then (w2 z 4 : Nat) else sgn (w4 z 4)
def nH (z : ByteArray) : Int := if z.size = 12 then (w2 z 6 : Nat) else sgn (w4 z 8)
def nP (z : ByteArray) : Nat := if z.size = 12 then w2 z 8 else w2 z 12
def nD (z : ByteArray) : Nat := if z.size = 12 then w2 z 10 else w2 z 14
def nM (z : ByteArray) : Nat := if z.size = 12 then 0 else w4 z 16
def nC (z : ByteArray) : Nat := if z.size = 12 then 0 else w4 z 32
def nV (z : ByteArray) : Array Value := #[.int .i64 (z.size : Nat), .int .i64 (nW z), .int .i64 (nH z), .int .i64 (nP z), .int .i64 (nD z), .int .i64 (nM z), .int .i64 (nC z)]

def rdH (n : Int) : Bool := decide (n = 12 ∨ n = 40 ∨ n = 52 ∨ n = 56 ∨ n = 108 ∨ n = 124)
def otH (n : Int) : Bool := decide (n = 16 ∨ n = 64)
def fa (n : Int) : Int := if 0 ≤ n then n else -n
def dpH (d n : Int) : Bool := decide ((d = 1 ∨ d = 4 ∨ d = 8 ∨ d = 24) ∨ ((d = 16 ∨ d = 32) ∧ n ≠ 12))
def ftH (m d : Int) : Bool := decide ((m = 1 ∧ d = 8) ∨ (m = 2 ∧ d = 4) ∨ (m = 3 ∧ (d = 16 ∨ d = 32)) ∨ (m ≠ 1 ∧ m ≠ 2 ∧ m ≠ 3))
def pkH (m : Int) : Bool := decide (m = 1 ∨ m = 2)
def allC (d : Int) : Int := if d = 1 then 2 else if d = 4 then 16 else if d = 8 then 256 else 0
def mstC (d : Int) : Int := if d = 1 then 2 else if d = 4 then 16 else 256
def clrC (d c : Int) : Int := if c = 0 then allC d else c

/-- Is check number k what is wrong? -/
def ckD (S W H P D M C : Int) : Nat → Bool
  | 0 => decide (W < 1)
  | 1 => decide (16384 < W)
  | 2 => H == 0
  | 3 => decide (16384 < fa H)
  | 4 => P != 1
  | 5 => !(dpH D S)
  | 6 => decide (3 < M)
  | 7 => !(ftH M D)
  | 8 => pkH M && decide (H < 0)
  | 9 => decide (mstC D < C)
  | _ => true
def kdD : Nat → Int
  | 0 => 2 | 1 => 3 | 2 => 2 | 3 => 3 | 4 => 2 | 5 => 3 | 6 => 3 | 7 => 2 | 8 => 2 | 9 => 2 | _ => 0
def plD (S : Int) : Nat → Int
  | 0 => 4 | 1 => 4 | 2 => (if S = 12 then 6 else 8) | 3 => (if S = 12 then 6 else 8) | 4 => (if S = 12 then 8 else 12) | 5 => (if S = 12 then 10 else 14) | 6 => 16 | 7 => 16 | 8 => (if S = 12 then 6 else 8) | 9 => 32 | _ => 0
/-- K is the first check that tells something; 10: there is none. -/
structure FstB (b : Nat → Bool) (K : Nat) : Prop where
  le : K ≤ 10
  yes : K < 10 → b K = true
  no : ∀ j, j < K → b j = false
theorem fst_ex (b : Nat → Bool) : ∃ K, FstB b K := by
  have : ∀ n, n ≤ 10 → (∀ j, j < 10 - n → b j = false) → ∃ K, FstB b K := by
    intro n
    induction n with
    | zero => intro _ h; exact ⟨10, Nat.le_refl _, fun h => absurd h (by decide), h⟩
    | succ n ih =>
      intro hn h
      cases hk : b (10 - (n + 1)) with
      | true => exact ⟨10 - (n + 1), by omega, fun _ => hk, h⟩
      | false => exact ih (by omega) (fun j hj => by
          by_cases e : j = 10 - (n + 1)
          · rw [e]; exact hk
          · exact h j (by omega))
  exact this 10 (Nat.le_refl _) (fun j hj => absurd hj (by omega))

theorem isread_calls (n : Int) (W : World) : Calls Tryd.prog 38 #[.int .i64 n] W fun e w' => e = .returned (.bool (rdH n)) ∧ W = w' := by
  by_cases h : n = 12 ∨ n = 40 ∨ n = 52 ∨ n = 56 ∨ n = 108 ∨ n = 124
  · rw [show rdH n = true from by unfold rdH; exact decide_eq_true h]
    obtain rfl | rfl | rfl | rfl | rfl | rfl := h
    all_goals
      go_enter Tryd.func38, Tryd.ntmps38
      go_wp2
      go_ret
      exact ⟨rfl, rfl⟩
  · rw [show rdH n = false from by unfold rdH; exact decide_eq_false h]
    have h12 : (n == 12) = false := by rw [beq_eq_false_iff_ne]; omega
    have h40 : (n == 40) = false := by rw [beq_eq_false_iff_ne]; omega
    have h52 : (n == 52) = false := by rw [beq_eq_false_iff_ne]; omega
    have h56 : (n == 56) = false := by rw [beq_eq_false_iff_ne]; omega
    have h108 : (n == 108) = false := by rw [beq_eq_false_iff_ne]; omega
    have h124 : (n == 124) = false := by rw [beq_eq_false_iff_ne]; omega
    clear h
    go_enter Tryd.func38, Tryd.ntmps38
    go_wp2
    go_ret
    exact ⟨rfl, rfl⟩

theorem isother_calls (n : Int) (W : World) : Calls Tryd.prog 39 #[.int .i64 n] W fun e w' => e = .returned (.bool (otH n)) ∧ W = w' := by
  by_cases h : n = 16 ∨ n = 64
  · rw [show otH n = true from by unfold otH; exact decide_eq_true h]
    obtain rfl | rfl := h
    all_goals
      go_enter Tryd.func39, Tryd.ntmps39
      go_wp2
      go_ret
      exact ⟨rfl, rfl⟩
  · rw [show otH n = false from by unfold otH; exact decide_eq_false h]
    have h16 : (n == 16) = false := by rw [beq_eq_false_iff_ne]; omega
    have h64 : (n == 64) = false := by rw [beq_eq_false_iff_ne]; omega
    clear h
    go_enter Tryd.func39, Tryd.ntmps39
    go_wp2
    go_ret
    exact ⟨rfl, rfl⟩

theorem ispacked_calls (n : Int) (W : World) : Calls Tryd.prog 50 #[.int .i64 n] W fun e w' => e = .returned (.bool (pkH n)) ∧ W = w' := by
  by_cases h : n = 1 ∨ n = 2
  · rw [show pkH n = true from by unfold pkH; exact decide_eq_true h]
    obtain rfl | rfl := h
    all_goals
      go_enter Tryd.func50, Tryd.ntmps50
      go_wp2
      go_ret
      exact ⟨rfl, rfl⟩
  · rw [show pkH n = false from by unfold pkH; exact decide_eq_false h]
    have h1 : (n == 1) = false := by rw [beq_eq_false_iff_ne]; omega
    have h2 : (n == 2) = false := by rw [beq_eq_false_iff_ne]; omega
    clear h
    go_enter Tryd.func50, Tryd.ntmps50
    go_wp2
    go_ret
    exact ⟨rfl, rfl⟩

theorem known_calls (n : Int) (W : World) : Calls Tryd.prog 17 #[.int .i64 n] W fun e w' => e = .returned (.bool (rdH n || otH n)) ∧ W = w' := by
  have K1 := fun u => isread_calls n u
  have K2 := Lib.hid (fun u => isother_calls n u)
  cases hr : rdH n with
  | true =>
    rw [hr] at K1
    have K1 := Lib.hid K1
    clear hr
    go_enter Tryd.func17, Tryd.ntmps17
    go_wp2_with fail
    refine (K1.out _).mono ?_
    rintro e w' ⟨rfl, rfl⟩
    go_wp2
    go_ret
    exact ⟨rfl, rfl⟩
  | false =>
    rw [hr] at K1
    have K1 := Lib.hid K1
    clear hr
    rw [Bool.false_or]
    go_enter Tryd.func17, Tryd.ntmps17
    go_wp2_with fail
    refine (K1.out _).mono ?_
    rintro e w' ⟨rfl, rfl⟩
    go_wp2_with fail
    refine (K2.out _).mono ?_
    rintro e w' ⟨rfl, rfl⟩
    go_wp2
    go_ret
    exact ⟨rfl, rfl⟩

theorem far_calls (n : Int) (h1 : -9223372036854775807 ≤ n) (h2 : n ≤ 9223372036854775807) (W : World) : Calls Tryd.prog 26 #[.int .i64 n] W fun e w' => e = .returned (.int .i64 (fa n)) ∧ W = w' := by
  have hw : IntKind.i64.wrap (-n) = -n := by rw [IntKind.wrap_i64]; omega
  have hw' : IntKind.i64.wrap (0 - n) = -n := by rw [IntKind.wrap_i64]; omega
  have e : fa n = max n (-n) := by unfold fa; split <;> omega
  rw [e]
  obtain ⟨m, hm⟩ : ∃ m, -n = m := ⟨_, rfl⟩
  rw [hm] at hw hw' ⊢
  clear e h1 h2
  go_enter Tryd.func26, Tryd.ntmps26
  go_wp2
  go_ret
  exact ⟨by first | rfl | simp, rfl⟩

theorem isdepth_calls (d n : Int) (W : World) : Calls Tryd.prog 48 #[.int .i64 d, .int .i64 n] W fun e w' => e = .returned (.bool (dpH d n)) ∧ W = w' := by
  by_cases h : d = 1 ∨ d = 4 ∨ d = 8 ∨ d = 24
  · rw [show dpH d n = true from by unfold dpH; exact decide_eq_true (.inl h)]
    obtain rfl | rfl | rfl | rfl := h
    all_goals
      go_enter Tryd.func48, Tryd.ntmps48
      go_wp2
      go_ret
      exact ⟨rfl, rfl⟩
  · by_cases h2 : d = 16 ∨ d = 32
    · rw [show dpH d n = (n != 12) from by
        unfold dpH
        rw [Bool.eq_iff_iff, decide_eq_true_iff, bne_iff_ne]
        exact ⟨fun k => k.elim (fun a => absurd a h) (fun a => a.2), fun k => .inr ⟨h2, k⟩⟩]
      obtain rfl | rfl := h2
      all_goals
        clear h
        go_enter Tryd.func48, Tryd.ntmps48
        go_wp2
        go_ret
        exact ⟨rfl, rfl⟩
    · rw [show dpH d n = false from by unfold dpH; exact decide_eq_false (fun k => k.elim h (fun a => h2 a.1))]
      have h1 : (d == 1) = false := by rw [beq_eq_false_iff_ne]; omega
      have h4 : (d == 4) = false := by rw [beq_eq_false_iff_ne]; omega
      have h8 : (d == 8) = false := by rw [beq_eq_false_iff_ne]; omega
      have h24 : (d == 24) = false := by rw [beq_eq_false_iff_ne]; omega
      have h16 : (d == 16) = false := by rw [beq_eq_false_iff_ne]; omega
      have h32 : (d == 32) = false := by rw [beq_eq_false_iff_ne]; omega
      clear h h2
      go_enter Tryd.func48, Tryd.ntmps48
      go_wp2
      go_ret
      exact ⟨rfl, rfl⟩

theorem fits_calls (m d : Int) (W : World) : Calls Tryd.prog 49 #[.int .i64 m, .int .i64 d] W fun e w' => e = .returned (.bool (ftH m d)) ∧ W = w' := by
  by_cases h1 : m = 1
  · subst h1
    rw [show ftH 1 d = (d == 8) from by unfold ftH; rw [Bool.eq_iff_iff, decide_eq_true_iff, beq_iff_eq]; omega]
    go_enter Tryd.func49, Tryd.ntmps49
    go_wp2
    go_ret
    exact ⟨rfl, rfl⟩
  by_cases h2 : m = 2
  · subst h2
    clear h1
    rw [show ftH 2 d = (d == 4) from by unfold ftH; rw [Bool.eq_iff_iff, decide_eq_true_iff, beq_iff_eq]; omega]
    go_enter Tryd.func49, Tryd.ntmps49
    go_wp2
    go_ret
    exact ⟨rfl, rfl⟩
  by_cases h3 : m = 3
  · subst h3
    clear h1 h2
    by_cases h16 : d = 16
    · subst h16
      rw [show ftH 3 16 = true from rfl]
      go_enter Tryd.func49, Tryd.ntmps49
      go_wp2
      go_ret
      exact ⟨rfl, rfl⟩
    · rw [show ftH 3 d = (d == 32) from by unfold ftH; rw [Bool.eq_iff_iff, decide_eq_true_iff, beq_iff_eq]; omega]
      have h : (d == 16) = false := by rw [beq_eq_false_iff_ne]; omega
      clear h16
      go_enter Tryd.func49, Tryd.ntmps49
      go_wp2
      go_ret
      exact ⟨rfl, rfl⟩
  · rw [show ftH m d = true from by unfold ftH; exact decide_eq_true (.inr (.inr (.inr ⟨h1, h2, h3⟩)))]
    have g1 : (m == 1) = false := by rw [beq_eq_false_iff_ne]; omega
    have g2 : (m == 2) = false := by rw [beq_eq_false_iff_ne]; omega
    have g3 : (m == 3) = false := by rw [beq_eq_false_iff_ne]; omega
    clear h1 h2 h3
    go_enter Tryd.func49, Tryd.ntmps49
    go_wp2
    go_ret
    exact ⟨rfl, rfl⟩

theorem allcolors_calls (d : Int) (W : World) : Calls Tryd.prog 54 #[.int .i64 d] W fun e w' => e = .returned (.int .i64 (allC d)) ∧ W = w' := by
  by_cases h : d = 1 ∨ d = 4 ∨ d = 8
  · obtain rfl | rfl | rfl := h
    all_goals
      go_enter Tryd.func54, Tryd.ntmps54
      go_wp2
      go_ret
      exact ⟨rfl, rfl⟩
  · rw [show allC d = 0 from by unfold allC; rw [if_neg (by omega), if_neg (by omega), if_neg (by omega)]]
    have h1 : (d == 1) = false := by rw [beq_eq_false_iff_ne]; omega
    have h4 : (d == 4) = false := by rw [beq_eq_false_iff_ne]; omega
    have h8 : (d == 8) = false := by rw [beq_eq_false_iff_ne]; omega
    clear h
    go_enter Tryd.func54, Tryd.ntmps54
    go_wp2
    go_ret
    exact ⟨rfl, rfl⟩

theorem mostcolors_calls (d : Int) (W : World) : Calls Tryd.prog 51 #[.int .i64 d] W fun e w' => e = .returned (.int .i64 (mstC d)) ∧ W = w' := by
  have K := fun u => allcolors_calls d u
  by_cases h : d = 1 ∨ d = 4 ∨ d = 8
  · obtain rfl | rfl | rfl := h
    · have K := Lib.hid (show ∀ u, Calls Tryd.prog 54 #[.int .i64 1] u fun e w' => e = .returned (.int .i64 2) ∧ u = w' from K)
      go_enter Tryd.func51, Tryd.ntmps51
      go_wp2_with fail
      refine (K.out _).mono ?_
      rintro e w' ⟨rfl, rfl⟩
      go_wp2
      go_ret
      exact ⟨rfl, rfl⟩
    · have K := Lib.hid (show ∀ u, Calls Tryd.prog 54 #[.int .i64 4] u fun e w' => e = .returned (.int .i64 16) ∧ u = w' from K)
      go_enter Tryd.func51, Tryd.ntmps51
      go_wp2_with fail
      refine (K.out _).mono ?_
      rintro e w' ⟨rfl, rfl⟩
      go_wp2
      go_ret
      exact ⟨rfl, rfl⟩
    · have K := Lib.hid (show ∀ u, Calls Tryd.prog 54 #[.int .i64 8] u fun e w' => e = .returned (.int .i64 256) ∧ u = w' from K)
      go_enter Tryd.func51, Tryd.ntmps51
      go_wp2_with fail
      refine (K.out _).mono ?_
      rintro e w' ⟨rfl, rfl⟩
      go_wp2
      go_ret
      exact ⟨rfl, rfl⟩
  · rw [show mstC d = 256 from by unfold mstC; rw [if_neg (by omega), if_neg (by omega)]]
    rw [show allC d = 0 from by unfold allC; rw [if_neg (by omega), if_neg (by omega), if_neg (by omega)]] at K
    have K := Lib.hid K
    clear h
    go_enter Tryd.func51, Tryd.ntmps51
    go_wp2_with fail
    refine (K.out _).mono ?_
    rintro e w' ⟨rfl, rfl⟩
    go_wp2
    go_ret
    exact ⟨rfl, rfl⟩

theorem colors_calls (S w h p D M C : Int) (W : World) : Calls Tryd.prog 27 #[.agg #[.int .i64 S, .int .i64 w, .int .i64 h, .int .i64 p, .int .i64 D, .int .i64 M, .int .i64 C]] W fun e w' => e = .returned (.int .i64 (clrC D C)) ∧ W.grownBy w' none := by
  have K := Lib.hid (fun u => allcolors_calls D u)
  by_cases hc : C = 0
  · subst hc
    rw [show clrC D 0 = allC D from rfl]
    go_enter Tryd.func27, Tryd.ntmps27
    go_wp2_with fail
    refine (K.out _).mono ?_
    rintro e w' ⟨rfl, rfl⟩
    go_wp2
    go_ret
    exact ⟨rfl, World.grownBy_alloc _ _ _⟩
  · rw [show clrC D C = C from if_neg hc]
    have h1 : (C == 0) = false := by rw [beq_eq_false_iff_ne]; omega
    clear hc
    go_enter Tryd.func27, Tryd.ntmps27
    go_wp2
    go_ret
    exact ⟨rfl, World.grownBy_alloc _ _ _⟩

def pcA (S : Int) : Array Value := if S = 12 then #[.int .i64 6, .int .i64 8, .int .i64 10] else #[.int .i64 8, .int .i64 12, .int .i64 14]
theorem places_calls (S : Int) (W : World) : Calls Tryd.prog 45 #[.int .i64 S] W fun e w' => e = .returned (.agg (pcA S)) ∧ W.grownBy w' none := by
  by_cases h : S = 12
  · subst h
    rw [show pcA 12 = #[.int .i64 6, .int .i64 8, .int .i64 10] from rfl]
    go_enter Tryd.func45, Tryd.ntmps45
    go_wp2
    first | go_ret | refine bodyPost_ret (v := .agg #[.int .i64 6, .int .i64 8, .int .i64 10]) (by simp only [results, Tryd.results45]; go_simp) rfl ?_
    exact ⟨rfl, by first | exact gb_refl _ _ | exact World.grownBy_alloc _ _ _⟩
  · rw [show pcA S = #[.int .i64 8, .int .i64 12, .int .i64 14] from if_neg h]
    have h1 : (S == 12) = false := by rw [beq_eq_false_iff_ne]; omega
    clear h
    go_enter Tryd.func45, Tryd.ntmps45
    go_wp2
    first | go_ret | refine bodyPost_ret (v := .agg #[.int .i64 8, .int .i64 12, .int .i64 14]) (by simp only [results, Tryd.results45]; go_simp) rfl ?_
    exact ⟨rfl, by first | exact gb_refl _ _ | exact World.grownBy_alloc _ _ _⟩

end Go.Proofs.YtikjfmpdfeaooaaDoor.Dh

/- Layer 20: a head's numbers, walked (written by wip/gen/dh2.py). -/
namespace Go.Proofs.YtikjfmpdfeaooaaDoor.Dh
open Go.ChangeShapes Go.WideShapes Go.ChangeAt Go.RowKit
open Go.Proofs.YtikjfmpdfeaooaaDoor.Le Go.Proofs.YtikjfmpdfeaooaaDoor.Sr
set_option linter.unusedVariables false

/-- The first k bytes of a number. -/
def lo (s : ByteArray) (a : Nat) : Nat → Nat
  | 0 => 0
  | k + 1 => lo s a k + 256 ^ k * bn s (a + k)
theorem lo_lt (s : ByteArray) (a : Nat) : ∀ k, lo s a k < 256 ^ k
  | 0 => Nat.zero_lt_one
  | k + 1 => by
    have h1 := lo_lt s a k
    have h2 : 256 ^ k * bn s (a + k) ≤ 256 ^ k * 255 := Nat.mul_le_mul_left _ (by have := bn_lt s (a + k); omega)
    show lo s a k + _ < 256 ^ k * 256
    omega
theorem lo_2 (s : ByteArray) (a : Nat) : lo s a 2 = w2 s a := by
  simp only [lo, w2, Nat.add_zero]
  omega
theorem lo_4 (s : ByteArray) (a : Nat) : lo s a 4 = w4 s a := by
  simp only [lo, w4, Nat.add_zero]
  omega
theorem wraps_u16 (n : Int) (h₀ : 0 ≤ n) (h₁ : n < 2 ^ 16) : IntKind.u16.wrap n = n := by simp [IntKind.wrap, IntKind.bits, IntKind.signed]; omega
theorem or32_0 (v c : Nat) (hv : v < 1) (hc : c < 256) : bits .or .u32 (v : Int) (c : Int) = ((v + 1 * c : Nat) : Int) := by
  have h := bits_nat .u32 32 (by decide) wraps_u32 v (1 * c) (by omega) (by omega)
  rw [show (c : Int) = ((1 * c : Nat) : Int) from by omega, h.2, Nat.or_comm, show 1 = 2 ^ 0 from rfl, ← Nat.two_pow_add_eq_or_of_lt (by omega) c]
  omega
theorem or32_1 (v c : Nat) (hv : v < 256) (hc : c < 256) : bits .or .u32 (v : Int) ((c : Int) * 256) = ((v + 256 * c : Nat) : Int) := by
  have h := bits_nat .u32 32 (by decide) wraps_u32 v (256 * c) (by omega) (by omega)
  rw [show ((c : Int) * 256) = ((256 * c : Nat) : Int) from by omega, h.2, Nat.or_comm, show 256 = 2 ^ 8 from rfl, ← Nat.two_pow_add_eq_or_of_lt (by omega) c]
  omega
theorem or32_2 (v c : Nat) (hv : v < 65536) (hc : c < 256) : bits .or .u32 (v : Int) ((c : Int) * 65536) = ((v + 65536 * c : Nat) : Int) := by
  have h := bits_nat .u32 32 (by decide) wraps_u32 v (65536 * c) (by omega) (by omega)
  rw [show ((c : Int) * 65536) = ((65536 * c : Nat) : Int) from by omega, h.2, Nat.or_comm, show 65536 = 2 ^ 16 from rfl, ← Nat.two_pow_add_eq_or_of_lt (by omega) c]
  omega
theorem or32_3 (v c : Nat) (hv : v < 16777216) (hc : c < 256) : bits .or .u32 (v : Int) ((c : Int) * 16777216) = ((v + 16777216 * c : Nat) : Int) := by
  have h := bits_nat .u32 32 (by decide) wraps_u32 v (16777216 * c) (by omega) (by omega)
  rw [show ((c : Int) * 16777216) = ((16777216 * c : Nat) : Int) from by omega, h.2, Nat.or_comm, show 16777216 = 2 ^ 24 from rfl, ← Nat.two_pow_add_eq_or_of_lt (by omega) c]
  omega
theorem or16_0 (v c : Nat) (hv : v < 1) (hc : c < 256) : bits .or .u16 (v : Int) (c : Int) = ((v + 1 * c : Nat) : Int) := by
  have h := bits_nat .u16 16 (by decide) wraps_u16 v (1 * c) (by omega) (by omega)
  rw [show (c : Int) = ((1 * c : Nat) : Int) from by omega, h.2, Nat.or_comm, show 1 = 2 ^ 0 from rfl, ← Nat.two_pow_add_eq_or_of_lt (by omega) c]
  omega
theorem or16_1 (v c : Nat) (hv : v < 256) (hc : c < 256) : bits .or .u16 (v : Int) ((c : Int) * 256) = ((v + 256 * c : Nat) : Int) := by
  have h := bits_nat .u16 16 (by decide) wraps_u16 v (256 * c) (by omega) (by omega)
  rw [show ((c : Int) * 256) = ((256 * c : Nat) : Int) from by omega, h.2, Nat.or_comm, show 256 = 2 ^ 8 from rfl, ← Nat.two_pow_add_eq_or_of_lt (by omega) c]
  omega
theorem ofInt_wrap (x : Int) : BitVec.ofInt 32 (IntKind.i32.wrap x) = BitVec.ofInt 32 x := by
  rw [IntKind.wrap_i32]
  apply BitVec.eq_of_toInt_eq
  simp only [BitVec.toInt_ofInt]
  rw [Int.bmod_def, Int.bmod_def]
  have : ((x + 2147483648) % 4294967296 - 2147483648) % ((2 ^ 32 : Nat) : Int) = x % ((2 ^ 32 : Nat) : Int) := by omega
  rw [this]
theorem ori_wrap (v y : Nat) (x : Int) (hx : IntKind.i32.wrap (y : Int) = x) (hv : v < 4294967296) (hy : y < 4294967296) : bits .or .i32 (v : Int) x = IntKind.i32.wrap ((v ||| y : Nat) : Int) := by
  subst hx
  show IntKind.i32.wrap ((BitVec.ofInt 32 (v : Int) ||| BitVec.ofInt 32 (IntKind.i32.wrap (y : Int))).toNat : Int) = _
  rw [ofInt_wrap]
  simp only [BitVec.ofInt_natCast, BitVec.toNat_or, BitVec.toNat_ofNat]
  rw [Nat.mod_eq_of_lt hv, Nat.mod_eq_of_lt hy]
theorem ori_0 (v c : Nat) (hv : v < 1) (hc : c < 256) : bits .or .i32 (v : Int) (c : Int) = IntKind.i32.wrap ((v + 1 * c : Nat) : Int) := by
  rw [ori_wrap v (1 * c) (c : Int) (by rw [IntKind.wrap_i32]; omega) (by omega) (by omega), Nat.or_comm, show 1 = 2 ^ 0 from rfl, ← Nat.two_pow_add_eq_or_of_lt (by omega) c]
  congr 2
  omega
theorem ori_1 (v c : Nat) (hv : v < 256) (hc : c < 256) : bits .or .i32 (v : Int) ((c : Int) * 256) = IntKind.i32.wrap ((v + 256 * c : Nat) : Int) := by
  rw [ori_wrap v (256 * c) ((c : Int) * 256) (by rw [IntKind.wrap_i32]; omega) (by omega) (by omega), Nat.or_comm, show 256 = 2 ^ 8 from rfl, ← Nat.two_pow_add_eq_or_of_lt (by omega) c]
  congr 2
  omega
theorem ori_2 (v c : Nat) (hv : v < 65536) (hc : c < 256) : bits .or .i32 (v : Int) ((c : Int) * 65536) = IntKind.i32.wrap ((v + 65536 * c : Nat) : Int) := by
  rw [ori_wrap v (65536 * c) ((c : Int) * 65536) (by rw [IntKind.wrap_i32]; omega) (by omega) (by omega), Nat.or_comm, show 65536 = 2 ^ 16 from rfl, ← Nat.two_pow_add_eq_or_of_lt (by omega) c]
  congr 2
  omega
theorem ori_3 (v c : Nat) (hv : v < 16777216) (hc : c < 256) : bits .or .i32 (v : Int) (wrap32 ((c : Int) * 16777216)) = IntKind.i32.wrap ((v + 16777216 * c : Nat) : Int) := by
  rw [ori_wrap v (16777216 * c) (wrap32 ((c : Int) * 16777216)) (by rw [IntKind.wrap_i32]; simp only [wrap32]; omega) (by omega) (by omega), Nat.or_comm, show 16777216 = 2 ^ 24 from rfl, ← Nat.two_pow_add_eq_or_of_lt (by omega) c]
  congr 2
  omega

set_option maxRecDepth 100000 in
set_option maxHeartbeats 2000000 in
theorem n32_calls (b : ByteArray) (a : Nat) (W : World) (h : a + 4 ≤ b.size) (hm : b.size ≤ 9223372036854775807) :
    Calls Tryd.prog 44 #[.string b, .int .i64 a, .int .i64 4] W fun e w' => e = .returned (.int .i64 ((w4 b a : Nat))) ∧ W = w' := by
  go_enter Tryd.func44, Tryd.ntmps44
  go_wp2_with fail
  go_loopg [7, 11] 4 (fun q vv iv wr => ∃ k : Nat, k ≤ 4 ∧ q = 4 - k ∧ vv = .int .u32 ((lo b a k : Nat)) ∧ iv = .int .i64 k ∧ W = wr)
  case atStart => exact ⟨0, by omega, rfl, rfl, rfl, rfl⟩
  case round =>
    obtain ⟨k, hk, rfl, rfl, rfl, rfl⟩ := hrel
    obtain rfl | rfl | rfl | rfl | rfl : k = 0 ∨ k = 1 ∨ k = 2 ∨ k = 3 ∨ k = 4 := by omega
    · obtain ⟨q, hq⟩ : ∃ q : Nat, a + 0 = q := ⟨_, rfl⟩
      have hqi : (a : Int) + 0 = (q : Int) := by omega
      have hqw : IntKind.i64.wrap (q : Int) = (q : Int) := IntWalk.i64_in _ (by omega)
      have hqb : q < b.size := by omega
      have hqb' : (q : Int) < (b.size : Int) := by omega
      have b255 := bn_lt b q
      have st : lo b a 1 = lo b a 0 + 1 * bn b q := by rw [← hq]; rfl
      have lt := lo_lt b a 0
      obtain ⟨c, hcz⟩ : ∃ c, bn b q = c := ⟨_, rfl⟩
      obtain ⟨v, hv⟩ : ∃ v, lo b a 0 = v := ⟨_, rfl⟩
      rw [hcz] at b255 st
      rw [hv] at lt st ⊢
      rw [← bn_at b q hqb] at hcz
      simp only [Nat.reducePow] at lt
      have OR := or32_0 v c (by omega) b255
      have SS := Lib.hid st
      clear st lt hv hq
      go_wp2
      go_roundg (4 - 1)
      case measure => omega
      case rel => exact ⟨1, by omega, rfl, by rw [SS.out]; first | go_num | exact congrArg (Value.int IntKind.i32) (by simp only [wrap32, IntKind.wrap_i32]; omega), by go_num, rfl⟩
    · obtain ⟨q, hq⟩ : ∃ q : Nat, a + 1 = q := ⟨_, rfl⟩
      have hqi : (a : Int) + 1 = (q : Int) := by omega
      have hqw : IntKind.i64.wrap (q : Int) = (q : Int) := IntWalk.i64_in _ (by omega)
      have hqb : q < b.size := by omega
      have hqb' : (q : Int) < (b.size : Int) := by omega
      have b255 := bn_lt b q
      have st : lo b a 2 = lo b a 1 + 256 * bn b q := by rw [← hq]; rfl
      have lt := lo_lt b a 1
      obtain ⟨c, hcz⟩ : ∃ c, bn b q = c := ⟨_, rfl⟩
      obtain ⟨v, hv⟩ : ∃ v, lo b a 1 = v := ⟨_, rfl⟩
      rw [hcz] at b255 st
      rw [hv] at lt st ⊢
      rw [← bn_at b q hqb] at hcz
      simp only [Nat.reducePow] at lt
      have OR := or32_1 v c (by omega) b255
      have SS := Lib.hid st
      clear st lt hv hq
      go_wp2
      go_roundg (4 - 2)
      case measure => omega
      case rel => exact ⟨2, by omega, rfl, by rw [SS.out]; first | go_num | exact congrArg (Value.int IntKind.i32) (by simp only [wrap32, IntKind.wrap_i32]; omega), by go_num, rfl⟩
    · obtain ⟨q, hq⟩ : ∃ q : Nat, a + 2 = q := ⟨_, rfl⟩
      have hqi : (a : Int) + 2 = (q : Int) := by omega
      have hqw : IntKind.i64.wrap (q : Int) = (q : Int) := IntWalk.i64_in _ (by omega)
      have hqb : q < b.size := by omega
      have hqb' : (q : Int) < (b.size : Int) := by omega
      have b255 := bn_lt b q
      have st : lo b a 3 = lo b a 2 + 65536 * bn b q := by rw [← hq]; rfl
      have lt := lo_lt b a 2
      obtain ⟨c, hcz⟩ : ∃ c, bn b q = c := ⟨_, rfl⟩
      obtain ⟨v, hv⟩ : ∃ v, lo b a 2 = v := ⟨_, rfl⟩
      rw [hcz] at b255 st
      rw [hv] at lt st ⊢
      rw [← bn_at b q hqb] at hcz
      simp only [Nat.reducePow] at lt
      have OR := or32_2 v c (by omega) b255
      have SS := Lib.hid st
      clear st lt hv hq
      go_wp2
      go_roundg (4 - 3)
      case measure => omega
      case rel => exact ⟨3, by omega, rfl, by rw [SS.out]; first | go_num | exact congrArg (Value.int IntKind.i32) (by simp only [wrap32, IntKind.wrap_i32]; omega), by go_num, rfl⟩
    · obtain ⟨q, hq⟩ : ∃ q : Nat, a + 3 = q := ⟨_, rfl⟩
      have hqi : (a : Int) + 3 = (q : Int) := by omega
      have hqw : IntKind.i64.wrap (q : Int) = (q : Int) := IntWalk.i64_in _ (by omega)
      have hqb : q < b.size := by omega
      have hqb' : (q : Int) < (b.size : Int) := by omega
      have b255 := bn_lt b q
      have st : lo b a 4 = lo b a 3 + 16777216 * bn b q := by rw [← hq]; rfl
      have lt := lo_lt b a 3
      obtain ⟨c, hcz⟩ : ∃ c, bn b q = c := ⟨_, rfl⟩
      obtain ⟨v, hv⟩ : ∃ v, lo b a 3 = v := ⟨_, rfl⟩
      rw [hcz] at b255 st
      rw [hv] at lt st ⊢
      rw [← bn_at b q hqb] at hcz
      simp only [Nat.reducePow] at lt
      have OR := or32_3 v c (by omega) b255
      have SS := Lib.hid st
      clear st lt hv hq
      go_wp2
      go_roundg (4 - 4)
      case measure => omega
      case rel => exact ⟨4, by omega, rfl, by rw [SS.out]; first | go_num | exact congrArg (Value.int IntKind.i32) (by simp only [wrap32, IntKind.wrap_i32]; omega), by go_num, rfl⟩
    · rw [lo_4]
      have lt := w4_lt b a
      obtain ⟨v, hv⟩ : ∃ v, w4 b a = v := ⟨_, rfl⟩
      rw [hv] at lt ⊢
      have HV := Lib.hid hv
      clear hv
      have e2 : wrap64 (v : Int) = v := IntWalk.wrap64_in _ (by omega)
      go_wp2
      go_ret
      exact ⟨by rw [HV.out]; rfl, rfl⟩

set_option maxRecDepth 100000 in
set_option maxHeartbeats 2000000 in
theorem n16_calls (b : ByteArray) (a : Nat) (W : World) (h : a + 2 ≤ b.size) (hm : b.size ≤ 9223372036854775807) :
    Calls Tryd.prog 46 #[.string b, .int .i64 a, .int .i64 2] W fun e w' => e = .returned (.int .i64 ((w2 b a : Nat))) ∧ W = w' := by
  go_enter Tryd.func46, Tryd.ntmps46
  go_wp2_with fail
  go_loopg [7, 11] 2 (fun q vv iv wr => ∃ k : Nat, k ≤ 2 ∧ q = 2 - k ∧ vv = .int .u16 ((lo b a k : Nat)) ∧ iv = .int .i64 k ∧ W = wr)
  case atStart => exact ⟨0, by omega, rfl, rfl, rfl, rfl⟩
  case round =>
    obtain ⟨k, hk, rfl, rfl, rfl, rfl⟩ := hrel
    obtain rfl | rfl | rfl : k = 0 ∨ k = 1 ∨ k = 2 := by omega
    · obtain ⟨q, hq⟩ : ∃ q : Nat, a + 0 = q := ⟨_, rfl⟩
      have hqi : (a : Int) + 0 = (q : Int) := by omega
      have hqw : IntKind.i64.wrap (q : Int) = (q : Int) := IntWalk.i64_in _ (by omega)
      have hqb : q < b.size := by omega
      have hqb' : (q : Int) < (b.size : Int) := by omega
      have b255 := bn_lt b q
      have st : lo b a 1 = lo b a 0 + 1 * bn b q := by rw [← hq]; rfl
      have lt := lo_lt b a 0
      obtain ⟨c, hcz⟩ : ∃ c, bn b q = c := ⟨_, rfl⟩
      obtain ⟨v, hv⟩ : ∃ v, lo b a 0 = v := ⟨_, rfl⟩
      rw [hcz] at b255 st
      rw [hv] at lt st ⊢
      rw [← bn_at b q hqb] at hcz
      simp only [Nat.reducePow] at lt
      have OR := or16_0 v c (by omega) b255
      have SS := Lib.hid st
      clear st lt hv hq
      go_wp2
      go_roundg (2 - 1)
      case measure => omega
      case rel => exact ⟨1, by omega, rfl, by rw [SS.out]; first | go_num | exact congrArg (Value.int IntKind.i32) (by simp only [wrap32, IntKind.wrap_i32]; omega), by go_num, rfl⟩
    · obtain ⟨q, hq⟩ : ∃ q : Nat, a + 1 = q := ⟨_, rfl⟩
      have hqi : (a : Int) + 1 = (q : Int) := by omega
      have hqw : IntKind.i64.wrap (q : Int) = (q : Int) := IntWalk.i64_in _ (by omega)
      have hqb : q < b.size := by omega
      have hqb' : (q : Int) < (b.size : Int) := by omega
      have b255 := bn_lt b q
      have st : lo b a 2 = lo b a 1 + 256 * bn b q := by rw [← hq]; rfl
      have lt := lo_lt b a 1
      obtain ⟨c, hcz⟩ : ∃ c, bn b q = c := ⟨_, rfl⟩
      obtain ⟨v, hv⟩ : ∃ v, lo b a 1 = v := ⟨_, rfl⟩
      rw [hcz] at b255 st
      rw [hv] at lt st ⊢
      rw [← bn_at b q hqb] at hcz
      simp only [Nat.reducePow] at lt
      have OR := or16_1 v c (by omega) b255
      have SS := Lib.hid st
      clear st lt hv hq
      go_wp2
      go_roundg (2 - 2)
      case measure => omega
      case rel => exact ⟨2, by omega, rfl, by rw [SS.out]; first | go_num | exact congrArg (Value.int IntKind.i32) (by simp only [wrap32, IntKind.wrap_i32]; omega), by go_num, rfl⟩
    · rw [lo_2]
      have lt := w2_lt b a
      obtain ⟨v, hv⟩ : ∃ v, w2 b a = v := ⟨_, rfl⟩
      rw [hv] at lt ⊢
      have HV := Lib.hid hv
      clear hv
      have e2 : wrap64 (v : Int) = v := IntWalk.wrap64_in _ (by omega)
      go_wp2
      go_ret
      exact ⟨by rw [HV.out]; rfl, rfl⟩

set_option maxRecDepth 100000 in
set_option maxHeartbeats 2000000 in
theorem nS32_calls (b : ByteArray) (a : Nat) (W : World) (h : a + 4 ≤ b.size) (hm : b.size ≤ 9223372036854775807) :
    Calls Tryd.prog 47 #[.string b, .int .i64 a, .int .i64 4] W fun e w' => e = .returned (.int .i64 (sgn (w4 b a))) ∧ W = w' := by
  go_enter Tryd.func47, Tryd.ntmps47
  go_wp2_with fail
  go_loopg [7, 11] 4 (fun q vv iv wr => ∃ k : Nat, k ≤ 4 ∧ q = 4 - k ∧ vv = .int .i32 (IntKind.i32.wrap (lo b a k : Nat)) ∧ iv = .int .i64 k ∧ W = wr)
  case atStart => exact ⟨0, by omega, rfl, rfl, rfl, rfl⟩
  case round =>
    obtain ⟨k, hk, rfl, rfl, rfl, rfl⟩ := hrel
    obtain rfl | rfl | rfl | rfl | rfl : k = 0 ∨ k = 1 ∨ k = 2 ∨ k = 3 ∨ k = 4 := by omega
    · obtain ⟨q, hq⟩ : ∃ q : Nat, a + 0 = q := ⟨_, rfl⟩
      have hqi : (a : Int) + 0 = (q : Int) := by omega
      have hqw : IntKind.i64.wrap (q : Int) = (q : Int) := IntWalk.i64_in _ (by omega)
      have hqb : q < b.size := by omega
      have hqb' : (q : Int) < (b.size : Int) := by omega
      have b255 := bn_lt b q
      have st : lo b a 1 = lo b a 0 + 1 * bn b q := by rw [← hq]; rfl
      have lt := lo_lt b a 0
      obtain ⟨c, hcz⟩ : ∃ c, bn b q = c := ⟨_, rfl⟩
      obtain ⟨v, hv⟩ : ∃ v, lo b a 0 = v := ⟨_, rfl⟩
      rw [hcz] at b255 st
      rw [hv] at lt st ⊢
      rw [← bn_at b q hqb] at hcz
      simp only [Nat.reducePow] at lt
      have WV : IntKind.i32.wrap (v : Int) = v := by rw [IntKind.wrap_i32]; omega
      have OR := ori_0 v c (by omega) b255
      rw [WV]
      have SS := Lib.hid st
      clear st lt hv hq
      go_wp2
      go_roundg (4 - 1)
      case measure => omega
      case rel => exact ⟨1, by omega, rfl, by rw [SS.out]; first | go_num | exact congrArg (Value.int IntKind.i32) (by simp only [wrap32, IntKind.wrap_i32]; omega), by go_num, rfl⟩
    · obtain ⟨q, hq⟩ : ∃ q : Nat, a + 1 = q := ⟨_, rfl⟩
      have hqi : (a : Int) + 1 = (q : Int) := by omega
      have hqw : IntKind.i64.wrap (q : Int) = (q : Int) := IntWalk.i64_in _ (by omega)
      have hqb : q < b.size := by omega
      have hqb' : (q : Int) < (b.size : Int) := by omega
      have b255 := bn_lt b q
      have st : lo b a 2 = lo b a 1 + 256 * bn b q := by rw [← hq]; rfl
      have lt := lo_lt b a 1
      obtain ⟨c, hcz⟩ : ∃ c, bn b q = c := ⟨_, rfl⟩
      obtain ⟨v, hv⟩ : ∃ v, lo b a 1 = v := ⟨_, rfl⟩
      rw [hcz] at b255 st
      rw [hv] at lt st ⊢
      rw [← bn_at b q hqb] at hcz
      simp only [Nat.reducePow] at lt
      have WV : IntKind.i32.wrap (v : Int) = v := by rw [IntKind.wrap_i32]; omega
      have OR := ori_1 v c (by omega) b255
      rw [WV]
      have SS := Lib.hid st
      clear st lt hv hq
      go_wp2
      go_roundg (4 - 2)
      case measure => omega
      case rel => exact ⟨2, by omega, rfl, by rw [SS.out]; first | go_num | exact congrArg (Value.int IntKind.i32) (by simp only [wrap32, IntKind.wrap_i32]; omega), by go_num, rfl⟩
    · obtain ⟨q, hq⟩ : ∃ q : Nat, a + 2 = q := ⟨_, rfl⟩
      have hqi : (a : Int) + 2 = (q : Int) := by omega
      have hqw : IntKind.i64.wrap (q : Int) = (q : Int) := IntWalk.i64_in _ (by omega)
      have hqb : q < b.size := by omega
      have hqb' : (q : Int) < (b.size : Int) := by omega
      have b255 := bn_lt b q
      have st : lo b a 3 = lo b a 2 + 65536 * bn b q := by rw [← hq]; rfl
      have lt := lo_lt b a 2
      obtain ⟨c, hcz⟩ : ∃ c, bn b q = c := ⟨_, rfl⟩
      obtain ⟨v, hv⟩ : ∃ v, lo b a 2 = v := ⟨_, rfl⟩
      rw [hcz] at b255 st
      rw [hv] at lt st ⊢
      rw [← bn_at b q hqb] at hcz
      simp only [Nat.reducePow] at lt
      have WV : IntKind.i32.wrap (v : Int) = v := by rw [IntKind.wrap_i32]; omega
      have OR := ori_2 v c (by omega) b255
      rw [WV]
      have SS := Lib.hid st
      clear st lt hv hq
      go_wp2
      go_roundg (4 - 3)
      case measure => omega
      case rel => exact ⟨3, by omega, rfl, by rw [SS.out]; first | go_num | exact congrArg (Value.int IntKind.i32) (by simp only [wrap32, IntKind.wrap_i32]; omega), by go_num, rfl⟩
    · obtain ⟨q, hq⟩ : ∃ q : Nat, a + 3 = q := ⟨_, rfl⟩
      have hqi : (a : Int) + 3 = (q : Int) := by omega
      have hqw : IntKind.i64.wrap (q : Int) = (q : Int) := IntWalk.i64_in _ (by omega)
      have hqb : q < b.size := by omega
      have hqb' : (q : Int) < (b.size : Int) := by omega
      have b255 := bn_lt b q
      have st : lo b a 4 = lo b a 3 + 16777216 * bn b q := by rw [← hq]; rfl
      have lt := lo_lt b a 3
      obtain ⟨c, hcz⟩ : ∃ c, bn b q = c := ⟨_, rfl⟩
      obtain ⟨v, hv⟩ : ∃ v, lo b a 3 = v := ⟨_, rfl⟩
      rw [hcz] at b255 st
      rw [hv] at lt st ⊢
      rw [← bn_at b q hqb] at hcz
      simp only [Nat.reducePow] at lt
      have WV : IntKind.i32.wrap (v : Int) = v := by rw [IntKind.wrap_i32]; omega
      have OR := ori_3 v c (by omega) b255
      rw [WV]
      have SS := Lib.hid st
      clear st lt hv hq
      go_wp2
      go_roundg (4 - 4)
      case measure => omega
      case rel => exact ⟨4, by omega, rfl, by rw [SS.out]; first | go_num | exact congrArg (Value.int IntKind.i32) (by simp only [wrap32, IntKind.wrap_i32]; omega), by go_num, rfl⟩
    · rw [lo_4]
      have lt := w4_lt b a
      rw [show IntKind.i32.wrap ((w4 b a : Nat) : Int) = sgn (w4 b a) from by rw [IntKind.wrap_i32]; unfold sgn; split <;> omega]
      have lt2 : -2147483648 ≤ sgn (w4 b a) ∧ sgn (w4 b a) ≤ 2147483647 := by unfold sgn; split <;> omega
      obtain ⟨v, hv⟩ : ∃ v, sgn (w4 b a) = v := ⟨_, rfl⟩
      rw [hv] at lt2 ⊢
      clear lt
      have HV := Lib.hid hv
      clear hv
      have e2 : wrap64 (v : Int) = v := IntWalk.wrap64_in _ (by omega)
      go_wp2
      go_ret
      exact ⟨by rw [HV.out]; rfl, rfl⟩

end Go.Proofs.YtikjfmpdfeaooaaDoor.Dh

/- The document's numbers of two and four bytes (written by wip/gen/di4.py). -/
namespace Go.Proofs.YtikjfmpdfeaooaaDoor.Dh
open Go.ChangeShapes Go.WideShapes Go.ChangeAt Go.RowKit
open Go.Proofs.YtikjfmpdfeaooaaDoor.Le Go.Proofs.YtikjfmpdfeaooaaDoor.Sr
set_option linter.unusedVariables false

theorem num_w2 (s : ByteArray) (p : Nat) (h : p + 2 ≤ s.size) : numV false (s.extract p (p + 2)) = w2 s p := by
  have hl : (s.extract p (p + 2)).data.toList = [s.data.toList.getD p 0, s.data.toList.getD (p + 1) 0] := by
    rw [Lib.extract_data]
    have h0 : p < s.data.toList.length := by rw [← Lib.size_eq]; omega
    have h1 : p + 1 < s.data.toList.length := by rw [← Lib.size_eq]; omega
    rw [show p + 2 - p = 2 from by omega]
    rw [List.getD_eq_getElem?_getD, List.getD_eq_getElem?_getD, List.getElem?_eq_getElem h0, List.getElem?_eq_getElem h1]
    rw [List.drop_eq_getElem_cons h0, List.drop_eq_getElem_cons h1]
    rfl
  unfold numV w2 bn
  rw [hl]
  simp [acc, ordd]
  omega
theorem num_w4 (s : ByteArray) (p : Nat) (h : p + 4 ≤ s.size) : numV false (s.extract p (p + 4)) = w4 s p := by
  have hl : (s.extract p (p + 4)).data.toList = [s.data.toList.getD p 0, s.data.toList.getD (p + 1) 0, s.data.toList.getD (p + 2) 0, s.data.toList.getD (p + 3) 0] := by
    rw [Lib.extract_data]
    have h0 : p < s.data.toList.length := by rw [← Lib.size_eq]; omega
    have h1 : p + 1 < s.data.toList.length := by rw [← Lib.size_eq]; omega
    have h2 : p + 2 < s.data.toList.length := by rw [← Lib.size_eq]; omega
    have h3 : p + 3 < s.data.toList.length := by rw [← Lib.size_eq]; omega
    rw [show p + 4 - p = 4 from by omega]
    rw [List.getD_eq_getElem?_getD, List.getD_eq_getElem?_getD, List.getD_eq_getElem?_getD, List.getD_eq_getElem?_getD, List.getElem?_eq_getElem h0, List.getElem?_eq_getElem h1, List.getElem?_eq_getElem h2, List.getElem?_eq_getElem h3]
    rw [List.drop_eq_getElem_cons h0, List.drop_eq_getElem_cons h1, List.drop_eq_getElem_cons h2, List.drop_eq_getElem_cons h3]
    rfl
  unfold numV w4 bn
  rw [hl]
  simp [acc, ordd]
  omega
theorem le2_is (s : ByteArray) (p : Nat) (h : p + 2 ≤ s.size) (u : World) : Calls Tryd.prog 29 #[.string (s.extract p (p + 2))] u fun e w' => e = .returned (.int .i64 (w2 s p : Nat)) ∧ u = w' := by
  have K := rle_calls (s.extract p (p + 2)) u (by rw [ByteArray.size_extract]; omega)
  rwa [num_w2 s p h] at K
theorem le4_is (s : ByteArray) (p : Nat) (h : p + 4 ≤ s.size) (u : World) : Calls Tryd.prog 29 #[.string (s.extract p (p + 4))] u fun e w' => e = .returned (.int .i64 (w4 s p : Nat)) ∧ u = w' := by
  have K := rle_calls (s.extract p (p + 4)) u (by rw [ByteArray.size_extract]; omega)
  rwa [num_w4 s p h] at K
theorem sg4_is (s : ByteArray) (p : Nat) (h : p + 4 ≤ s.size) (u : World) : Calls Tryd.prog 31 #[.string (s.extract p (p + 4))] u fun e w' => e = .returned (.int .i64 (sgn (w4 s p))) ∧ u = w' := by
  have K := rsigned_calls (s.extract p (p + 4)) u (by rw [ByteArray.size_extract]; omega)
  rwa [num_w4 s p h] at K

end Go.Proofs.YtikjfmpdfeaooaaDoor.Dh
