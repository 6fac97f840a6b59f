/- Texts of one kind, one behind the other: Src4, Src5, SrcA, Tga1, Tga2. -/
import Derived.Deep.LoopGhost
import Derived.Laws.BitsAllLaws
import Derived.Lib.BufferWrite
import Derived.Lib.RabinKarpLaws
import Derived.Test.YtgkeopgccocmkaaGreatG01
/- Package src: numbers are put together of bytes. -/
namespace Go.Proofs.YtgkeopgccocmkaaGreat.Sr
open Go.ChangeShapes Go.WideShapes Go.ChangeAt Go.RowKit
open Go.Proofs.YtgkeopgccocmkaaGreat.Le
set_option linter.unusedVariables false

/-- The number of some bytes, the highest first. -/
def acc (z : List UInt8) : Nat := z.foldl (fun v c => 256 * v + c.toNat) 0
/-- Bytes in the order in which they weigh, the highest first. -/
def ordd (o : Bool) (z : List UInt8) : List UInt8 := if o then z else z.reverse
theorem acc_snoc (z : List UInt8) (c : UInt8) : acc (z ++ [c]) = 256 * acc z + c.toNat := by simp [acc, List.foldl_append]
theorem acc_lt' (z : List UInt8) : acc z.reverse < 256 ^ z.length := by
  induction z with
  | nil => simp [acc]
  | cons c z ih =>
    rw [List.reverse_cons, acc_snoc, List.length_cons, Nat.pow_succ]
    have := c.toNat_lt
    omega
theorem acc_lt (z : List UInt8) : acc z < 256 ^ z.length := by
  have h := acc_lt' z.reverse
  rwa [List.reverse_reverse, List.length_reverse] at h
theorem ordd_len (o : Bool) (z : List UInt8) : (ordd o z).length = z.length := by unfold ordd; split <;> simp
/-- The number of bytes, in an order. -/
def numV (o : Bool) (z : ByteArray) : Nat := acc (ordd o z.data.toList)
/-- Which byte is taken in round k. -/
def nxt (o : Bool) (n k : Nat) : Nat := if o then k else n - 1 - k
theorem nxt_lt (o : Bool) {n k : Nat} (h : k < n) : nxt o n k < n := by unfold nxt; split <;> omega
theorem ordd_at (o : Bool) (z : List UInt8) (k : Nat) (h : k < z.length) : (ordd o z)[k]'(by rw [ordd_len]; exact h) = z[nxt o z.length k]'(nxt_lt o h) := by
  cases o with
  | true => rfl
  | false => simp [ordd, nxt, List.getElem_reverse]
theorem acc_step (o : Bool) (z : List UInt8) (k : Nat) (h : k < z.length) : acc ((ordd o z).take (k + 1)) = 256 * acc ((ordd o z).take k) + (z[nxt o z.length k]'(nxt_lt o h)).toNat := by
  rw [← ordd_at o z k h, List.take_succ_eq_append_getElem (by rw [ordd_len]; exact h), acc_snoc]

theorem wraps_u32 (n : Int) (h₀ : 0 ≤ n) (h₁ : n < 2 ^ 32) : IntKind.u32.wrap n = n := by rw [IntKind.wrap_u32]; omega
/-- A number moved on by a byte. -/
theorem or32 (v c : Nat) (hv : v < 16777216) (hc : c < 256) : bits .or .u32 ((v : Int) * 256 % 4294967296) (c : Int) = ((256 * v + c : Nat) : Int) := by
  rw [show (v : Int) * 256 % 4294967296 = v * 256 from by omega]
  have h := bits_join .u32 32 (by decide) wraps_u32 8 ((v : Int) * 256) (c : Int) (by omega) (by omega) (by omega) (by omega) (by omega) (by omega)
  omega

theorem acc_lt4 (z : List UInt8) (h : z.length ≤ 4) : acc z < 4294967296 :=
  Nat.lt_of_lt_of_le (acc_lt z) (Nat.le_trans (Nat.pow_le_pow_right (by decide) h) (by decide))

/-- A number of four bytes with a sign. -/
def sgn (v : Nat) : Int := if 2147483648 ≤ v then (v : Int) - 4294967296 else v
theorem sgn_is (v : Nat) (h : v < 4294967296) : wrap32 (v : Int) = sgn v := by
  unfold sgn wrap32
  split <;> omega
theorem sgn_in (v : Nat) (h : v < 4294967296) : -9223372036854775808 ≤ sgn v ∧ sgn v ≤ 9223372036854775807 := by
  unfold sgn
  split <;> omega

end Go.Proofs.YtgkeopgccocmkaaGreat.Sr

/- Package src: the six numbers. -/
namespace Go.Proofs.YtgkeopgccocmkaaGreat.Sr
open Go.ChangeShapes Go.WideShapes Go.ChangeAt Go.RowKit
open Go.Proofs.YtgkeopgccocmkaaGreat.Le
set_option linter.unusedVariables false

theorem part_size (s : ByteArray) (p n : Nat) (h : p + n ≤ s.size) : (s.extract p (p + n)).size = n := by
  rw [ByteArray.size_extract]
  omega

end Go.Proofs.YtgkeopgccocmkaaGreat.Sr

/- Layer 5's answers: numbers of bytes; and the chapter's example. -/
namespace Go.Proofs.YtgkeopgccocmkaaGreat.Sr
open Go.ChangeShapes Go.WideShapes Go.ChangeAt Go.RowKit
open Go.Proofs.YtgkeopgccocmkaaGreat.Le
set_option linter.unusedVariables false

set_option maxRecDepth 100000 in
set_option maxHeartbeats 2000000 in
theorem rle_calls (z : ByteArray) (w : World) (hz : z.size ≤ 4) :
    Calls Tryz.prog 17 #[.string z] w fun e w' => e = .returned (.int .i64 (numV false z)) ∧ w = w' := by
  have HL := Lib.hid (Lib.size_eq z)
  go_enter Tryz.func17, Tryz.ntmps17
  go_wp2_with fail
  go_loopg [3, 4] z.size (fun q vv iv wr => ∃ k : Nat, k ≤ z.size ∧ q = z.size - k ∧ vv = .int .i64 (acc ((ordd false z.data.toList).take k)) ∧ iv = .int .i64 ((z.size : Int) - 1 - k) ∧ w = wr)
  case atStart => exact ⟨0, by omega, rfl, rfl, by simp, rfl⟩
  case round =>
    obtain ⟨k, hk, rfl, rfl, rfl, rfl⟩ := hrel
    by_cases hlt : k < z.size
    · have hlt2 : z.size - 1 - k < z.size := by omega
      have hl := HL.out
      have st := acc_step false z.data.toList k (by omega)
      have lt := Nat.lt_of_lt_of_le (acc_lt ((ordd false z.data.toList).take k)) (Nat.pow_le_pow_right (by decide) (show _ ≤ 3 from by rw [List.length_take]; omega))
      obtain ⟨v, hv⟩ : ∃ v, acc ((ordd false z.data.toList).take k) = v := ⟨_, rfl⟩
      rw [hv] at st lt ⊢
      have hi : nxt false z.data.toList.length k = z.size - 1 - k := by unfold nxt; rw [if_neg (by decide)]; omega
      simp only [hi] at st
      rw [byte_at' z (z.size - 1 - k) hlt2 (by omega)] at st
      have b255 := (z[z.size - 1 - k]'hlt2).toNat_lt
      obtain ⟨c, hcz⟩ : ∃ c, (z[z.size - 1 - k]'hlt2).toNat = c := ⟨_, rfl⟩
      rw [hcz] at st b255
      have ST := Lib.hid st
      clear st hv hi hl
      go_wp2
      go_roundg (z.size - (k + 1))
      case measure => omega
      case rel => exact ⟨k + 1, by omega, rfl, by rw [ST.out]; go_num, by simp; omega, rfl⟩
    · have hl := HL.out
      have hkn : k = z.size := by omega
      have e1 : (ordd false z.data.toList).take k = ordd false z.data.toList := List.take_of_length_le (by rw [ordd_len]; omega)
      rw [e1]
      clear e1 hl
      go_wp2
      go_ret
      exact ⟨rfl, rfl⟩

theorem num_lt (o : Bool) (z : ByteArray) (h : z.size ≤ 4) : numV o z < 4294967296 := acc_lt4 _ (by rw [ordd_len, ← Lib.size_eq]; exact h)

/-- A ledger of m steps of which n are done; nothing was refused. -/
def LW (m n : Int) : St := { w := 0, h := 0, b := 0, s := m, by_ := 0, pk := 0, st := n, r := 0, a := 0 }
theorem LW_ok {m n : Int} (hm : m ≤ 9223372036854775807) (n0 : 0 ≤ n) (nm : n ≤ m) : (LW m n).Ok :=
  ⟨by show (0 : Int) ≤ 0; decide, by show (0 : Int) ≤ _; decide, by show (0 : Int) ≤ 0; decide, by show (0 : Int) ≤ _; decide, by show (0 : Int) ≤ _; decide, hm, Int.le_refl _, Int.le_refl _, Int.le_refl _, n0, nm, by show (0 : Int) ≤ 0; decide, by show (0 : Int) ≤ 3; decide⟩
theorem LW_work {m n : Int} (h : n < m) : (LW m n).work 1 = (LW m (n + 1), true) := by
  unfold St.work
  rw [if_neg (by simp [LW]), if_neg (by simp only [LW]; omega)]
  simp [LW]
theorem LW_new {m : Int} (h : 0 ≤ m) : St.new 0 0 0 m = LW m 0 := by
  have e : pos m = m := by unfold pos; rw [if_neg (by omega)]
  have e0 : pos 0 = 0 := rfl
  simp [St.new, LW, e, e0]
theorem LW_rd {m k : Int} {p t : Nat} {n : Int} (h : k < m) (h0 : 0 ≤ n) (h1 : n ≤ (t : Int) - p) : rdB (LW m k) p t n = true := by
  unfold rdB
  rw [LW_work h]
  simp [canB, h0, h1]
theorem LW_out {m k : Int} {p t : Nat} {n : Int} (h : k < m) (h1 : n < 0 ∨ (t : Int) - p < n) : rdB (LW m k) p t n = false := by
  unfold rdB
  rw [LW_work h]
  rcases h1 with h1 | h1
  · simp [canB, show ¬ 0 ≤ n from by omega]
  · simp [canB, show ¬ n ≤ (t : Int) - p from by omega]

/-- A new ledger of m steps. -/
theorem wnew_calls (m : Int) (h0 : 0 ≤ m) (w : World) :
    Calls Tryz.prog 6 #[.agg #[.int .i64 0, .int .i64 0, .int .i64 0, .int .i64 m]] w
      fun e w' => ∃ b, e = .returned (.pointer (some ⟨b, 0, none⟩)) ∧ Led b (LW m 0).ls w' ∧ w.grownBy w' none ∧ w.heap.size ≤ b := by
  have h := new_calls 0 0 0 m w
  rwa [LW_new h0] at h

end Go.Proofs.YtgkeopgccocmkaaGreat.Sr

/- Layer 16, pure: what a head's bytes tell, and what is wrong with them; the code's small tests. -/
namespace Go.Proofs.YtgkeopgccocmkaaGreat.Tg
open Go.ChangeShapes Go.WideShapes Go.ChangeAt Go.RowKit
open Go.Proofs.YtgkeopgccocmkaaGreat.Le Go.Proofs.YtgkeopgccocmkaaGreat.Sr
set_option linter.unusedVariables false

/-- Byte i of a text, as a number. -/
def bn (s : ByteArray) (i : Nat) : Nat := (s.data.toList.getD i 0).toNat
theorem bn_at (s : ByteArray) (k : Nat) (h : k < s.size) : (s[k]'h).toNat = bn s k := by
  have h1 := Go.Proofs.byte_at s k h
  unfold bn
  rw [List.getD_eq_getElem?_getD, h1]
  rfl
theorem bn_lt (s : ByteArray) (k : Nat) : bn s k < 256 := UInt8.toNat_lt _
theorem bn_cell (s : ByteArray) (k : Nat) (h : k < s.size) {c : Nat} (e : bn s k = c) : ((s[k]'h).toNat : Int) = (c : Int) := by rw [bn_at, e]
/-- Two bytes, the lowest first. -/
def wd (s : ByteArray) (i : Nat) : Nat := bn s i + 256 * bn s (i + 1)
theorem wd_lt (s : ByteArray) (i : Nat) : wd s i < 65536 := by
  have h1 := bn_lt s i
  have h2 := bn_lt s (i + 1)
  unfold wd
  omega

def colB (n : Nat) : Bool := decide (n = 15 ∨ n = 16 ∨ n = 24 ∨ n = 32)
def pln (t : Nat) : Nat := if 9 ≤ t ∧ t ≤ 11 then t - 8 else t
def typB (t : Nat) : Bool := decide (1 ≤ pln t ∧ pln t ≤ 3)
def dpB (d t : Nat) : Bool := if pln t = 2 then colB d else decide (d = 8)
def alB (a d : Nat) : Bool := decide (a = 0 ∨ (d = 16 ∧ a = 1) ∨ (d = 32 ∧ a = 8))
def mpB (s : ByteArray) : Bool := decide (bn s 1 = 1)

/-- Is check number k what is wrong? -/
def ck (s : ByteArray) : Nat → Bool
  | 0 => decide (1 < bn s 1)
  | 1 => !(typB (bn s 2))
  | 2 => decide (pln (bn s 2) = 1) && !(mpB s)
  | 3 => mpB s && !(colB (bn s 7))
  | 4 => mpB s && decide (wd s 5 = 0)
  | 5 => decide (wd s 12 = 0)
  | 6 => decide (16384 < wd s 12)
  | 7 => decide (wd s 14 = 0)
  | 8 => decide (16384 < wd s 14)
  | 9 => !(dpB (bn s 16) (bn s 2))
  | 10 => decide (64 ≤ bn s 17)
  | 11 => !(alB (bn s 17 % 16) (bn s 16))
  | _ => true
def kdK : Nat → Int
  | 0 => 2 | 1 => 3 | 2 => 2 | 3 => 3 | 4 => 2 | 5 => 2 | 6 => 3 | 7 => 2 | 8 => 3 | 9 => 3 | 10 => 3 | 11 => 2 | _ => 0
def plK : Nat → Int
  | 0 => 1 | 1 => 2 | 2 => 1 | 3 => 7 | 4 => 5 | 5 => 12 | 6 => 12 | 7 => 14 | 8 => 14 | 9 => 16 | 10 => 17 | 11 => 17 | _ => 0
/-- K is the first check that tells something; 12: there is none. -/
structure Ck (s : ByteArray) (K : Nat) : Prop where
  le : K ≤ 12
  yes : ck s K = true
  no : ∀ j, j < K → ck s j = false
theorem ck_first (s : ByteArray) : ∀ n, n ≤ 12 → (∀ j, j < 12 - n → ck s j = false) → ∃ K, Ck s K
  | 0, _, h => ⟨12, Nat.le_refl _, rfl, h⟩
  | n + 1, hn, h => by
    cases hk : ck s (12 - (n + 1)) with
    | true => exact ⟨12 - (n + 1), by omega, hk, h⟩
    | false => exact ck_first s n (by omega) (fun j hj => by
        by_cases e : j = 12 - (n + 1)
        · rw [e]; exact hk
        · exact h j (by omega))
theorem ck_ex (s : ByteArray) : ∃ K, Ck s K := ck_first s 12 (Nat.le_refl _) (fun j hj => absurd hj (by omega))

/-- A head's fields, as the code has them. -/
def fst (s : ByteArray) : Nat := if mpB s then wd s 3 else 0
def cnt (s : ByteArray) : Nat := if mpB s then wd s 5 else 0
def ent (s : ByteArray) : Nat := if mpB s then bn s 7 else 0
def alp (s : ByteArray) : Nat := bn s 17 % 16
def lft (s : ByteArray) : Bool := decide (bn s 17 / 16 % 2 = 1)
def tpp (s : ByteArray) : Bool := decide (bn s 17 / 32 % 2 = 1)
def hA (s : ByteArray) : Array Value := #[.int .i64 (bn s 0), .bool (mpB s), .int .i64 (bn s 2), .int .i64 (fst s), .int .i64 (cnt s), .int .i64 (ent s), .int .i64 (wd s 12), .int .i64 (wd s 14), .int .i64 (bn s 16), .int .i64 (alp s), .bool (lft s), .bool (tpp s)]

theorem packed_calls (k : Int) (W : World) : Calls Tryz.prog 59 #[.int .i64 k] W fun e w' => e = .returned (.bool (decide (9 ≤ k) && decide (k ≤ 11))) ∧ W = w' := by
  by_cases h : 9 ≤ k
  · rw [show (decide (9 ≤ k) && decide (k ≤ 11)) = decide (k ≤ 11) from by simp [h]]
    go_enter Tryz.func59, Tryz.ntmps59
    go_wp2
    go_ret
    exact ⟨rfl, rfl⟩
  · rw [show (decide (9 ≤ k) && decide (k ≤ 11)) = false from by simp [h]]
    have h' : k < 9 := by omega
    clear h
    go_enter Tryz.func59, Tryz.ntmps59
    go_wp2
    go_ret
    exact ⟨rfl, rfl⟩

theorem plain_calls (t : Nat) (ht : t < 256) (W : World) : Calls Tryz.prog 44 #[.int .i64 t] W fun e w' => e = .returned (.int .i64 (pln t)) ∧ W = w' := by
  have K := fun u => packed_calls (t : Int) u
  by_cases h : 9 ≤ t ∧ t ≤ 11
  · have e : (decide ((9 : Int) ≤ t) && decide ((t : Int) ≤ 11)) = true := by simp; omega
    rw [e] at K
    rw [show ((pln t : Nat) : Int) = (t : Int) - 8 from by unfold pln; rw [if_pos h]; omega]
    have HK := Lib.hid K
    clear K e
    go_enter Tryz.func44, Tryz.ntmps44
    go_wp2_with fail
    refine (HK.out _).mono ?_
    rintro e w' ⟨rfl, rfl⟩
    go_wp2
    go_ret
    exact ⟨by go_num, rfl⟩
  · have e : (decide ((9 : Int) ≤ t) && decide ((t : Int) ≤ 11)) = false := by simp; omega
    rw [e] at K
    rw [show ((pln t : Nat) : Int) = (t : Int) from by unfold pln; rw [if_neg h]]
    have HK := Lib.hid K
    clear K e
    go_enter Tryz.func44, Tryz.ntmps44
    go_wp2_with fail
    refine (HK.out _).mono ?_
    rintro e w' ⟨rfl, rfl⟩
    go_wp2
    go_ret
    exact ⟨rfl, rfl⟩

theorem isType_calls (t : Nat) (ht : t < 256) (W : World) : Calls Tryz.prog 42 #[.int .i64 t] W fun e w' => e = .returned (.bool (typB t)) ∧ W = w' := by
  have K := Lib.hid (fun u => plain_calls t ht u)
  have e0 : typB t = (decide ((1 : Int) ≤ (pln t : Nat)) && decide (((pln t : Nat) : Int) ≤ 3)) := by
    unfold typB
    rw [Bool.eq_iff_iff]
    simp
    omega
  rw [e0]
  obtain ⟨x, hx⟩ : ∃ x, pln t = x := ⟨_, rfl⟩
  rw [hx] at K ⊢
  clear e0 hx
  by_cases h : (1 : Int) ≤ x
  · rw [show (decide ((1 : Int) ≤ x) && decide ((x : Int) ≤ 3)) = decide ((x : Int) ≤ 3) from by simp [h]]
    go_enter Tryz.func42, Tryz.ntmps42
    go_wp2_with fail
    refine (K.out _).mono ?_
    rintro e w' ⟨rfl, rfl⟩
    go_wp2_with fail
    refine (K.out _).mono ?_
    rintro e w' ⟨rfl, rfl⟩
    go_wp2
    go_ret
    exact ⟨rfl, rfl⟩
  · rw [show (decide ((1 : Int) ≤ x) && decide ((x : Int) ≤ 3)) = false from by simp [h]]
    have h' : (x : Int) < 1 := by omega
    clear h
    go_enter Tryz.func42, Tryz.ntmps42
    go_wp2_with fail
    refine (K.out _).mono ?_
    rintro e w' ⟨rfl, rfl⟩
    go_wp2
    go_ret
    exact ⟨rfl, rfl⟩

theorem isColor_calls (n : Nat) (W : World) : Calls Tryz.prog 46 #[.int .i64 n] W fun e w' => e = .returned (.bool (colB n)) ∧ W = w' := by
  by_cases h : n = 15 ∨ n = 16 ∨ n = 24 ∨ n = 32
  · rw [show colB n = true from by unfold colB; exact decide_eq_true h]
    obtain rfl | rfl | rfl | rfl := h
    all_goals
      go_enter Tryz.func46, Tryz.ntmps46
      go_wp2
      go_ret
      exact ⟨rfl, rfl⟩
  · rw [show colB n = false from by unfold colB; exact decide_eq_false h]
    have h1 : ((n : Int) == 15) = false := by rw [beq_eq_false_iff_ne]; omega
    have h2 : ((n : Int) == 16) = false := by rw [beq_eq_false_iff_ne]; omega
    have h3 : ((n : Int) == 24) = false := by rw [beq_eq_false_iff_ne]; omega
    have h4 : ((n : Int) == 32) = false := by rw [beq_eq_false_iff_ne]; omega
    clear h
    go_enter Tryz.func46, Tryz.ntmps46
    go_wp2
    go_ret
    exact ⟨rfl, rfl⟩

theorem rcolor_calls (n : Nat) (W : World) : Calls Tryz.prog 18 #[.int .i64 n] W fun e w' => e = .returned (.bool (colB n)) ∧ W = w' := by
  by_cases h : n = 15 ∨ n = 16 ∨ n = 24 ∨ n = 32
  · rw [show colB n = true from by unfold colB; exact decide_eq_true h]
    obtain rfl | rfl | rfl | rfl := h
    all_goals
      go_enter Tryz.func18, Tryz.ntmps18
      go_wp2
      go_ret
      exact ⟨rfl, rfl⟩
  · rw [show colB n = false from by unfold colB; exact decide_eq_false h]
    have h1 : ((n : Int) == 15) = false := by rw [beq_eq_false_iff_ne]; omega
    have h2 : ((n : Int) == 16) = false := by rw [beq_eq_false_iff_ne]; omega
    have h3 : ((n : Int) == 24) = false := by rw [beq_eq_false_iff_ne]; omega
    have h4 : ((n : Int) == 32) = false := by rw [beq_eq_false_iff_ne]; omega
    clear h
    go_enter Tryz.func18, Tryz.ntmps18
    go_wp2
    go_ret
    exact ⟨rfl, rfl⟩

theorem isDepth_calls (d t : Nat) (ht : t < 256) (W : World) : Calls Tryz.prog 53 #[.int .i64 d, .int .i64 t] W fun e w' => e = .returned (.bool (dpB d t)) ∧ W = w' := by
  have K := fun u => plain_calls t ht u
  have KC := Lib.hid (fun u => isColor_calls d u)
  unfold dpB
  obtain ⟨x, hx⟩ : ∃ x, pln t = x := ⟨_, rfl⟩
  rw [hx]
  simp only [hx] at K
  have HK := Lib.hid K
  clear K hx
  by_cases h : x = 2
  · subst h
    rw [if_pos rfl]
    go_enter Tryz.func53, Tryz.ntmps53
    go_wp2_with fail
    refine (HK.out _).mono ?_
    rintro e w' ⟨rfl, rfl⟩
    go_wp2_with fail
    refine (KC.out _).mono ?_
    rintro e w' ⟨rfl, rfl⟩
    go_wp2
    go_ret
    exact ⟨rfl, rfl⟩
  · rw [if_neg h]
    have h' : ((x : Int) == 2) = false := by rw [beq_eq_false_iff_ne]; omega
    have e : decide (d = 8) = ((d : Int) == 8) := by rw [Bool.eq_iff_iff]; simp; omega
    rw [e]
    clear h e
    go_enter Tryz.func53, Tryz.ntmps53
    go_wp2_with fail
    refine (HK.out _).mono ?_
    rintro e w' ⟨rfl, rfl⟩
    go_wp2
    go_ret
    exact ⟨rfl, rfl⟩

theorem isAlpha_calls (a d : Nat) (W : World) : Calls Tryz.prog 56 #[.int .i64 a, .int .i64 d] W fun e w' => e = .returned (.bool (alB a d)) ∧ W = w' := by
  by_cases h0 : a = 0
  · subst h0
    rw [show alB 0 d = true from by unfold alB; simp]
    go_enter Tryz.func56, Tryz.ntmps56
    go_wp2
    go_ret
    exact ⟨rfl, rfl⟩
  have d0 : ((a : Int) == 0) = false := by rw [beq_eq_false_iff_ne]; omega
  by_cases h1 : d = 16
  · subst h1
    rw [show alB a 16 = ((a : Int) == 1) from by unfold alB; rw [Bool.eq_iff_iff]; simp; omega]
    clear h0
    go_enter Tryz.func56, Tryz.ntmps56
    go_wp2
    go_ret
    exact ⟨rfl, rfl⟩
  have d1 : ((d : Int) == 16) = false := by rw [beq_eq_false_iff_ne]; omega
  by_cases h2 : d = 32
  · subst h2
    rw [show alB a 32 = ((a : Int) == 8) from by unfold alB; rw [Bool.eq_iff_iff]; simp; omega]
    clear h0 h1
    go_enter Tryz.func56, Tryz.ntmps56
    go_wp2
    go_ret
    exact ⟨rfl, rfl⟩
  have d2 : ((d : Int) == 32) = false := by rw [beq_eq_false_iff_ne]; omega
  rw [show alB a d = false from by unfold alB; apply decide_eq_false; omega]
  clear h0 h1 h2
  go_enter Tryz.func56, Tryz.ntmps56
  go_wp2
  go_ret
  exact ⟨rfl, rfl⟩

theorem or_high (a b : Nat) (ha : a < 256) (hb : b < 256) : bits .or .i64 (a : Int) ((b : Int) * 256) = (a : Int) + 256 * b := by
  have hn : a ||| (b * 256) = a + 256 * b := by
    have := Nat.shiftLeft_add_eq_or_of_lt (i := 8) (b := a) (by omega) b
    rw [Nat.or_comm, show b * 256 = b <<< 8 from by rw [Nat.shiftLeft_eq], ← this, Nat.shiftLeft_eq]
    omega
  have h1 : (BitVec.ofInt 64 (a : Int)).toNat = a := by
    rw [BitVec.ofInt_natCast, BitVec.toNat_ofNat]; exact Nat.mod_eq_of_lt (by omega)
  have h2 : (BitVec.ofInt 64 ((b * 256 : Nat) : Int)).toNat = b * 256 := by
    rw [BitVec.ofInt_natCast, BitVec.toNat_ofNat]; exact Nat.mod_eq_of_lt (by omega)
  have e : (b : Int) * 256 = ((b * 256 : Nat) : Int) := by omega
  rw [e]
  show IntKind.i64.wrap ((BitVec.ofInt 64 (a : Int) ||| BitVec.ofInt 64 ((b * 256 : Nat) : Int)).toNat : Int) = _
  rw [BitVec.toNat_or, h1, h2, hn, IntKind.wrap_i64]
  omega

set_option maxRecDepth 100000 in
theorem word_calls (s : ByteArray) (k a b : Nat) (W : World) (hk : k + 1 < s.size) (hm : s.size ≤ 9223372036854775807) (h0 : bn s k = a) (h1 : bn s (k + 1) = b) :
    Calls Tryz.prog 57 #[.string s, .int .i64 k] W fun e w' => e = .returned (.int .i64 ((a : Int) + 256 * b)) ∧ ∃ n, w' = W.drewN n := by
  have ha := bn_lt s k
  have hb := bn_lt s (k + 1)
  rw [h0] at ha
  rw [h1] at hb
  have hor := or_high a b ha hb
  have g0 : ((s[k]'(by omega)).toNat : Int) = (a : Int) := bn_cell s k (by omega) h0
  have g1 : ((s[k + 1]'(by omega)).toNat : Int) = (b : Int) := bn_cell s (k + 1) (by omega) h1
  obtain ⟨z, hz⟩ : ∃ z, (a : Int) + 256 * b = z := ⟨_, rfl⟩
  rw [hz] at hor ⊢
  have s1 : IntKind.i64.wrap ((b : Int) * 256) = (b : Int) * 256 := by rw [IntKind.wrap_i64]; omega
  clear h0 h1 hz
  go_enter Tryz.func57, Tryz.ntmps57
  go_wp2_with fail
  go_quiet (fail)
  go_wp2
  go_ret
  exact ⟨rfl, _, rfl⟩

end Go.Proofs.YtgkeopgccocmkaaGreat.Tg

/- Layer 16: the code's checks, each walked. -/
namespace Go.Proofs.YtgkeopgccocmkaaGreat.Tg
open Go.ChangeShapes Go.WideShapes Go.ChangeAt Go.RowKit
open Go.Proofs.YtgkeopgccocmkaaGreat.Le Go.Proofs.YtgkeopgccocmkaaGreat.Sr
set_option linter.unusedVariables false

/-- Block b is a head's fields; block b is a text. -/
def HB (b : Nat) (s : ByteArray) (w : World) : Prop := w.heap[b]? = some (.cells (hA s) 35 (0, 0))
def BB (b : Nat) (s : ByteArray) (w : World) : Prop := w.heap[b]? = some (.cells #[.string s] 9 (0, 0))
theorem HB.grown {b : Nat} {s : ByteArray} {w w' : World} (h : HB b s w) (g : w.grownBy w' none) : HB b s w' := old0 g h (blk_lt h) (by simp)
theorem BB.grown {b : Nat} {s : ByteArray} {w w' : World} (h : BB b s w) (g : w.grownBy w' none) : BB b s w' := old0 g h (blk_lt h) (by simp)
theorem BB.c0 {b : Nat} {s : ByteArray} {w : World} (h : BB b s w) : w.cell? ⟨b, 0, none⟩ = some (.string s) := blk_cell h 0
theorem HB.c0 {b : Nat} {s : ByteArray} {w : World} (h : HB b s w) : w.cell? ⟨b, 0, none⟩ = some (.int .i64 (bn s 0)) := blk_cell h 0

theorem HB.c1 {b : Nat} {s : ByteArray} {w : World} (h : HB b s w) : w.cell? ⟨b, 1, none⟩ = some (.bool (mpB s)) := blk_cell h 1

theorem HB.c2 {b : Nat} {s : ByteArray} {w : World} (h : HB b s w) : w.cell? ⟨b, 2, none⟩ = some (.int .i64 (bn s 2)) := blk_cell h 2

theorem HB.c3 {b : Nat} {s : ByteArray} {w : World} (h : HB b s w) : w.cell? ⟨b, 3, none⟩ = some (.int .i64 (fst s)) := blk_cell h 3

theorem HB.c4 {b : Nat} {s : ByteArray} {w : World} (h : HB b s w) : w.cell? ⟨b, 4, none⟩ = some (.int .i64 (cnt s)) := blk_cell h 4

theorem HB.c5 {b : Nat} {s : ByteArray} {w : World} (h : HB b s w) : w.cell? ⟨b, 5, none⟩ = some (.int .i64 (ent s)) := blk_cell h 5

theorem HB.c6 {b : Nat} {s : ByteArray} {w : World} (h : HB b s w) : w.cell? ⟨b, 6, none⟩ = some (.int .i64 (wd s 12)) := blk_cell h 6

theorem HB.c7 {b : Nat} {s : ByteArray} {w : World} (h : HB b s w) : w.cell? ⟨b, 7, none⟩ = some (.int .i64 (wd s 14)) := blk_cell h 7

theorem HB.c8 {b : Nat} {s : ByteArray} {w : World} (h : HB b s w) : w.cell? ⟨b, 8, none⟩ = some (.int .i64 (bn s 16)) := blk_cell h 8

theorem HB.c9 {b : Nat} {s : ByteArray} {w : World} (h : HB b s w) : w.cell? ⟨b, 9, none⟩ = some (.int .i64 (alp s)) := blk_cell h 9

theorem HB.c10 {b : Nat} {s : ByteArray} {w : World} (h : HB b s w) : w.cell? ⟨b, 10, none⟩ = some (.bool (lft s)) := blk_cell h 10

theorem HB.c11 {b : Nat} {s : ByteArray} {w : World} (h : HB b s w) : w.cell? ⟨b, 11, none⟩ = some (.bool (tpp s)) := blk_cell h 11


set_option maxRecDepth 100000 in
theorem cl0 (b : Nat) (s : ByteArray) (W : World) (H : BB b s W) (h18 : 18 ≤ s.size) (hm : s.size ≤ 9223372036854775807) :
    Calls Tryz.prog 40 #[.pointer (some ⟨b, 0, none⟩)] W fun e w' => e = .returned (.bool (ck s 0)) ∧ W.grownBy w' none := by
  have c0 := H.c0
  have hx := bn_lt s 1
  obtain ⟨x, ex⟩ : ∃ x, bn s 1 = x := ⟨_, rfl⟩
  have g0 : ((s[1]'(by omega)).toNat : Int) = (x : Int) := bn_cell s 1 (by omega) ex
  rw [show ck s 0 = decide ((1 : Int) < x) from by show decide (1 < bn s 1) = _; rw [ex, Bool.eq_iff_iff]; simp; omega]
  clear H ex
  go_enter Tryz.func40, Tryz.ntmps40
  go_wp2_with fail
  try go_quiet (fail)
  go_wp2
  go_ret
  exact ⟨rfl, by first | exact gb_drewN _ _ _ | exact gb_refl _ _⟩


set_option maxRecDepth 100000 in
theorem cl10 (b : Nat) (s : ByteArray) (W : World) (H : BB b s W) (h18 : 18 ≤ s.size) (hm : s.size ≤ 9223372036854775807) :
    Calls Tryz.prog 54 #[.pointer (some ⟨b, 0, none⟩)] W fun e w' => e = .returned (.bool (ck s 10)) ∧ W.grownBy w' none := by
  have c0 := H.c0
  have hx := bn_lt s 17
  obtain ⟨x, ex⟩ : ∃ x, bn s 17 = x := ⟨_, rfl⟩
  have g0 : ((s[17]'(by omega)).toNat : Int) = (x : Int) := bn_cell s 17 (by omega) ex
  have ea : bits .and .u8 (x : Int) 192 = ((x &&& 192 : Nat) : Int) := by
    have h1 : (BitVec.ofInt 8 (x : Int)).toNat = x := by rw [BitVec.ofInt_natCast, BitVec.toNat_ofNat]; exact Nat.mod_eq_of_lt (by omega)
    have h2 := @Nat.and_le_right x 192
    unfold bits
    show IntKind.u8.wrap (((BitVec.ofInt 8 (x : Int)) &&& (BitVec.ofInt 8 192)).toNat : Int) = _
    rw [BitVec.toNat_and, h1, show (BitVec.ofInt 8 192).toNat = 192 from by decide, IntKind.wrap_u8]
    omega
  rw [show ck s 10 = (((x &&& 192 : Nat) : Int) != 0) from by
    show decide (64 ≤ bn s 17) = _
    have key : ∀ x : Nat, x < 256 → decide (64 ≤ x) = (((x &&& 192 : Nat) : Int) != 0) := by decide
    rw [ex] at hx ⊢
    exact key x hx]
  obtain ⟨y, ey⟩ : ∃ y, ((x &&& 192 : Nat) : Int) = y := ⟨_, rfl⟩
  rw [ey] at ea ⊢
  clear H ex ey
  go_enter Tryz.func54, Tryz.ntmps54
  go_wp2_with fail
  try go_quiet (fail)
  go_wp2
  go_ret
  exact ⟨rfl, by first | exact gb_drewN _ _ _ | exact gb_refl _ _⟩


set_option maxRecDepth 100000 in
theorem cl1 (b : Nat) (s : ByteArray) (W : World) (H : HB b s W) :
    Calls Tryz.prog 41 #[.pointer (some ⟨b, 0, none⟩)] W fun e w' => e = .returned (.bool (ck s 1)) ∧ W.grownBy w' none := by
  have c := H.c2
  have K := Lib.hid (fun u => isType_calls (bn s 2) (bn_lt s 2) u)
  show Calls _ _ _ _ fun e w' => e = .returned (.bool (!(typB (bn s 2)))) ∧ W.grownBy w' none
  obtain ⟨x, ex⟩ : ∃ x, bn s 2 = x := ⟨_, rfl⟩
  obtain ⟨y, ey⟩ : ∃ y, typB (bn s 2) = y := ⟨_, rfl⟩
  rw [ey] at K ⊢
  rw [ex] at K c
  clear H ex ey
  go_enter Tryz.func41, Tryz.ntmps41
  go_wp2_with fail
  refine (K.out _).mono ?_
  rintro e w' ⟨rfl, rfl⟩
  go_wp2
  go_ret
  exact ⟨rfl, gb_refl _ _⟩


set_option maxRecDepth 100000 in
theorem cl2 (b : Nat) (s : ByteArray) (W : World) (H : HB b s W) :
    Calls Tryz.prog 43 #[.pointer (some ⟨b, 0, none⟩)] W fun e w' => e = .returned (.bool (ck s 2)) ∧ W.grownBy w' none := by
  have c := H.c2
  have c1 := H.c1
  have K := Lib.hid (fun u => plain_calls (bn s 2) (bn_lt s 2) u)
  show Calls _ _ _ _ fun e w' => e = .returned (.bool (decide (pln (bn s 2) = 1) && !(mpB s))) ∧ W.grownBy w' none
  obtain ⟨x, ex⟩ : ∃ x, bn s 2 = x := ⟨_, rfl⟩
  obtain ⟨y, ey⟩ : ∃ y, pln (bn s 2) = y := ⟨_, rfl⟩
  obtain ⟨z, ez⟩ : ∃ z, mpB s = z := ⟨_, rfl⟩
  rw [ey] at K ⊢
  rw [ex] at K c
  rw [ez] at c1 ⊢
  clear H ex ey ez
  by_cases h : y = 1
  · subst h
    rw [show (decide (1 = 1) && !z) = !z from by simp]
    go_enter Tryz.func43, Tryz.ntmps43
    go_wp2_with fail
    refine (K.out _).mono ?_
    rintro e w' ⟨rfl, rfl⟩
    go_wp2
    go_ret
    exact ⟨rfl, gb_refl _ _⟩
  · rw [show (decide (y = 1) && !z) = false from by simp [h]]
    have h' : ((y : Int) == 1) = false := by rw [beq_eq_false_iff_ne]; omega
    clear h
    go_enter Tryz.func43, Tryz.ntmps43
    go_wp2_with fail
    refine (K.out _).mono ?_
    rintro e w' ⟨rfl, rfl⟩
    go_wp2
    go_ret
    exact ⟨rfl, gb_refl _ _⟩


set_option maxRecDepth 100000 in
theorem cl3 (b : Nat) (s : ByteArray) (W : World) (H : HB b s W) :
    Calls Tryz.prog 45 #[.pointer (some ⟨b, 0, none⟩)] W fun e w' => e = .returned (.bool (ck s 3)) ∧ W.grownBy w' none := by
  have c := H.c1
  have c5 := H.c5
  have K := Lib.hid (fun u => isColor_calls (ent s) u)
  cases hz : mpB s with
  | false =>
    rw [hz] at c
    show Calls _ _ _ _ fun e w' => e = .returned (.bool (mpB s && !(colB (bn s 7)))) ∧ W.grownBy w' none
    rw [hz, Bool.false_and]
    clear H hz K
    go_enter Tryz.func45, Tryz.ntmps45
    go_wp2
    go_ret
    exact ⟨rfl, gb_refl _ _⟩
  | true =>
    rw [hz] at c
    show Calls _ _ _ _ fun e w' => e = .returned (.bool (mpB s && !(colB (bn s 7)))) ∧ W.grownBy w' none
    have he : ent s = bn s 7 := by unfold ent; rw [if_pos hz]
    rw [hz, Bool.true_and, ← he]
    obtain ⟨x, ex⟩ : ∃ x, ent s = x := ⟨_, rfl⟩
    rw [ex] at K c5 ⊢
    obtain ⟨y, ey⟩ : ∃ y, colB x = y := ⟨_, rfl⟩
    rw [ey] at K ⊢
    clear H hz he ex ey
    go_enter Tryz.func45, Tryz.ntmps45
    go_wp2_with fail
    refine (K.out _).mono ?_
    rintro e w' ⟨rfl, rfl⟩
    go_wp2
    go_ret
    exact ⟨rfl, gb_refl _ _⟩


set_option maxRecDepth 100000 in
theorem cl4 (b : Nat) (s : ByteArray) (W : World) (H : HB b s W) :
    Calls Tryz.prog 47 #[.pointer (some ⟨b, 0, none⟩)] W fun e w' => e = .returned (.bool (ck s 4)) ∧ W.grownBy w' none := by
  have c := H.c1
  have c4 := H.c4
  cases hz : mpB s with
  | false =>
    rw [hz] at c
    show Calls _ _ _ _ fun e w' => e = .returned (.bool (mpB s && decide (wd s 5 = 0))) ∧ W.grownBy w' none
    rw [hz, Bool.false_and]
    clear H hz
    go_enter Tryz.func47, Tryz.ntmps47
    go_wp2
    go_ret
    exact ⟨rfl, gb_refl _ _⟩
  | true =>
    rw [hz] at c
    show Calls _ _ _ _ fun e w' => e = .returned (.bool (mpB s && decide (wd s 5 = 0))) ∧ W.grownBy w' none
    have he : cnt s = wd s 5 := by unfold cnt; rw [if_pos hz]
    rw [hz, Bool.true_and, ← he]
    obtain ⟨x, ex⟩ : ∃ x, cnt s = x := ⟨_, rfl⟩
    rw [ex] at c4 ⊢
    rw [show decide (x = 0) = ((x : Int) == 0) from by rw [Bool.eq_iff_iff]; simp]
    clear H hz he ex
    go_enter Tryz.func47, Tryz.ntmps47
    go_wp2
    go_ret
    exact ⟨rfl, gb_refl _ _⟩


set_option maxRecDepth 100000 in
theorem cl5 (b : Nat) (s : ByteArray) (W : World) (H : HB b s W) :
    Calls Tryz.prog 48 #[.pointer (some ⟨b, 0, none⟩)] W fun e w' => e = .returned (.bool (ck s 5)) ∧ W.grownBy w' none := by
  have c := H.c6
  show Calls _ _ _ _ fun e w' => e = .returned (.bool (decide (wd s 12 = 0))) ∧ W.grownBy w' none
  obtain ⟨x, ex⟩ : ∃ x, wd s 12 = x := ⟨_, rfl⟩
  rw [ex] at c ⊢
  rw [show decide (x = 0) = ((x : Int) == 0) from by rw [Bool.eq_iff_iff]; simp]
  clear H ex
  go_enter Tryz.func48, Tryz.ntmps48
  go_wp2
  go_ret
  exact ⟨rfl, gb_refl _ _⟩


set_option maxRecDepth 100000 in
theorem cl6 (b : Nat) (s : ByteArray) (W : World) (H : HB b s W) :
    Calls Tryz.prog 49 #[.pointer (some ⟨b, 0, none⟩)] W fun e w' => e = .returned (.bool (ck s 6)) ∧ W.grownBy w' none := by
  have c := H.c6
  show Calls _ _ _ _ fun e w' => e = .returned (.bool (decide (16384 < wd s 12))) ∧ W.grownBy w' none
  obtain ⟨x, ex⟩ : ∃ x, wd s 12 = x := ⟨_, rfl⟩
  rw [ex] at c ⊢
  rw [show decide (16384 < x) = decide ((16384 : Int) < x) from by rw [Bool.eq_iff_iff]; simp; omega]
  clear H ex
  go_enter Tryz.func49, Tryz.ntmps49
  go_wp2
  go_ret
  exact ⟨rfl, gb_refl _ _⟩


set_option maxRecDepth 100000 in
theorem cl7 (b : Nat) (s : ByteArray) (W : World) (H : HB b s W) :
    Calls Tryz.prog 50 #[.pointer (some ⟨b, 0, none⟩)] W fun e w' => e = .returned (.bool (ck s 7)) ∧ W.grownBy w' none := by
  have c := H.c7
  show Calls _ _ _ _ fun e w' => e = .returned (.bool (decide (wd s 14 = 0))) ∧ W.grownBy w' none
  obtain ⟨x, ex⟩ : ∃ x, wd s 14 = x := ⟨_, rfl⟩
  rw [ex] at c ⊢
  rw [show decide (x = 0) = ((x : Int) == 0) from by rw [Bool.eq_iff_iff]; simp]
  clear H ex
  go_enter Tryz.func50, Tryz.ntmps50
  go_wp2
  go_ret
  exact ⟨rfl, gb_refl _ _⟩


set_option maxRecDepth 100000 in
theorem cl8 (b : Nat) (s : ByteArray) (W : World) (H : HB b s W) :
    Calls Tryz.prog 51 #[.pointer (some ⟨b, 0, none⟩)] W fun e w' => e = .returned (.bool (ck s 8)) ∧ W.grownBy w' none := by
  have c := H.c7
  show Calls _ _ _ _ fun e w' => e = .returned (.bool (decide (16384 < wd s 14))) ∧ W.grownBy w' none
  obtain ⟨x, ex⟩ : ∃ x, wd s 14 = x := ⟨_, rfl⟩
  rw [ex] at c ⊢
  rw [show decide (16384 < x) = decide ((16384 : Int) < x) from by rw [Bool.eq_iff_iff]; simp; omega]
  clear H ex
  go_enter Tryz.func51, Tryz.ntmps51
  go_wp2
  go_ret
  exact ⟨rfl, gb_refl _ _⟩


set_option maxRecDepth 100000 in
theorem cl9 (b : Nat) (s : ByteArray) (W : World) (H : HB b s W) :
    Calls Tryz.prog 52 #[.pointer (some ⟨b, 0, none⟩)] W fun e w' => e = .returned (.bool (ck s 9)) ∧ W.grownBy w' none := by
  have c := H.c8
  have c2 := H.c2
  have K := Lib.hid (fun u => isDepth_calls (bn s 16) (bn s 2) (bn_lt s 2) u)
  show Calls _ _ _ _ fun e w' => e = .returned (.bool (!(dpB (bn s 16) (bn s 2)))) ∧ W.grownBy w' none
  obtain ⟨z, ez⟩ : ∃ z, dpB (bn s 16) (bn s 2) = z := ⟨_, rfl⟩
  obtain ⟨x, ex⟩ : ∃ x, bn s 16 = x := ⟨_, rfl⟩
  obtain ⟨y, ey⟩ : ∃ y, bn s 2 = y := ⟨_, rfl⟩
  rw [ez] at K ⊢
  rw [ex] at K c
  rw [ey] at K c2
  clear H ex ey ez
  go_enter Tryz.func52, Tryz.ntmps52
  go_wp2_with fail
  try go_quiet (fail)
  refine (K.out _).mono ?_
  rintro e w' ⟨rfl, rfl⟩
  go_wp2
  go_ret
  exact ⟨rfl, by first | exact gb_drewN _ _ _ | exact gb_refl _ _⟩


set_option maxRecDepth 100000 in
theorem cl11 (b : Nat) (s : ByteArray) (W : World) (H : HB b s W) :
    Calls Tryz.prog 55 #[.pointer (some ⟨b, 0, none⟩)] W fun e w' => e = .returned (.bool (ck s 11)) ∧ W.grownBy w' none := by
  have c := H.c9
  have c2 := H.c8
  have K := Lib.hid (fun u => isAlpha_calls (alp s) (bn s 16)  u)
  show Calls _ _ _ _ fun e w' => e = .returned (.bool (!(alB (alp s) (bn s 16)))) ∧ W.grownBy w' none
  obtain ⟨z, ez⟩ : ∃ z, alB (alp s) (bn s 16) = z := ⟨_, rfl⟩
  obtain ⟨x, ex⟩ : ∃ x, alp s = x := ⟨_, rfl⟩
  obtain ⟨y, ey⟩ : ∃ y, bn s 16 = y := ⟨_, rfl⟩
  rw [ez] at K ⊢
  rw [ex] at K c
  rw [ey] at K c2
  clear H ex ey ez
  go_enter Tryz.func55, Tryz.ntmps55
  go_wp2_with fail
  try go_quiet (fail)
  refine (K.out _).mono ?_
  rintro e w' ⟨rfl, rfl⟩
  go_wp2
  go_ret
  exact ⟨rfl, by first | exact gb_drewN _ _ _ | exact gb_refl _ _⟩


end Go.Proofs.YtgkeopgccocmkaaGreat.Tg
