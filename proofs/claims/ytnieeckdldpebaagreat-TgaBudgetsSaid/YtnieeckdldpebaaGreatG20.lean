/- Texts of one kind, one behind the other: Src4, Src5, SrcA, Tga1, Tga2, Tok7, Tr0. -/
import Derived.Deep.LoopGhost
import Derived.Laws.BitsAllLaws
import Derived.Lib.BufferWrite
import Derived.Lib.RabinKarpLaws
import Derived.Test.YtnieeckdldpebaaGreatG01
import Derived.Test.YtnieeckdldpebaaGreatG34
/- Package src: numbers are put together of bytes. -/
namespace Go.Proofs.YtnieeckdldpebaaGreat.Sr
open Go.ChangeShapes Go.WideShapes Go.ChangeAt Go.RowKit
open Go.Proofs.YtnieeckdldpebaaGreat.Le
set_option linter.unusedVariables false

/-- The number of some bytes, the highest first. -/
def acc (z : List UInt8) : Nat := z.foldl (fun v c => 256 * v + c.toNat) 0
/-- Bytes in the order in which they weigh, the highest first. -/
def ordd (o : Bool) (z : List UInt8) : List UInt8 := if o then z else z.reverse
theorem acc_snoc (z : List UInt8) (c : UInt8) : acc (z ++ [c]) = 256 * acc z + c.toNat := by simp [acc, List.foldl_append]
theorem acc_lt' (z : List UInt8) : acc z.reverse < 256 ^ z.length := by
  induction z with
  | nil => simp [acc]
  | cons c z ih =>
    rw [List.reverse_cons, acc_snoc, List.length_cons, Nat.pow_succ]
    have := c.toNat_lt
    omega
theorem acc_lt (z : List UInt8) : acc z < 256 ^ z.length := by
  have h := acc_lt' z.reverse
  rwa [List.reverse_reverse, List.length_reverse] at h
theorem ordd_len (o : Bool) (z : List UInt8) : (ordd o z).length = z.length := by unfold ordd; split <;> simp
/-- The number of bytes, in an order. -/
def numV (o : Bool) (z : ByteArray) : Nat := acc (ordd o z.data.toList)
/-- Which byte is taken in round k. -/
def nxt (o : Bool) (n k : Nat) : Nat := if o then k else n - 1 - k
theorem nxt_lt (o : Bool) {n k : Nat} (h : k < n) : nxt o n k < n := by unfold nxt; split <;> omega
theorem ordd_at (o : Bool) (z : List UInt8) (k : Nat) (h : k < z.length) : (ordd o z)[k]'(by rw [ordd_len]; exact h) = z[nxt o z.length k]'(nxt_lt o h) := by
  cases o with
  | true => rfl
  | false => simp [ordd, nxt, List.getElem_reverse]
theorem acc_step (o : Bool) (z : List UInt8) (k : Nat) (h : k < z.length) : acc ((ordd o z).take (k + 1)) = 256 * acc ((ordd o z).take k) + (z[nxt o z.length k]'(nxt_lt o h)).toNat := by
  rw [← ordd_at o z k h, List.take_succ_eq_append_getElem (by rw [ordd_len]; exact h), acc_snoc]

theorem wraps_u32 (n : Int) (h₀ : 0 ≤ n) (h₁ : n < 2 ^ 32) : IntKind.u32.wrap n = n := by rw [IntKind.wrap_u32]; omega
/-- A number moved on by a byte. -/
theorem or32 (v c : Nat) (hv : v < 16777216) (hc : c < 256) : bits .or .u32 ((v : Int) * 256 % 4294967296) (c : Int) = ((256 * v + c : Nat) : Int) := by
  rw [show (v : Int) * 256 % 4294967296 = v * 256 from by omega]
  have h := bits_join .u32 32 (by decide) wraps_u32 8 ((v : Int) * 256) (c : Int) (by omega) (by omega) (by omega) (by omega) (by omega) (by omega)
  omega

set_option maxRecDepth 100000 in
set_option maxHeartbeats 2000000 in
theorem read8_go (b l : Nat) (z : ByteArray) (n : Nat) (o : Bool) (w : World) (K : World → Prop) (hz : z.size = n) (hn : n ≤ 1)
    (hT : Calls Tryz.prog 50 #[.pointer (some ⟨b, 0, none⟩), .int .i64 n] w fun e w' => e = .returned (.tuple #[.string z, .bool true]) ∧ K w') :
    Calls Tryz.prog 152 #[.pointer (some ⟨b, 0, none⟩), .int .i64 n, .bool o] w
      fun e w' => e = .returned (.tuple #[.int .i64 (numV o z), .bool true]) ∧ K w' := by
  have hK := Lib.hid hT
  clear hT
  go_enter Tryz.func152, Tryz.ntmps152
  go_wp2_with fail
  refine hK.out.mono ?_
  rintro e w1 ⟨rfl, hw⟩
  have HW := Lib.hid hw
  clear hw
  go_wp2_with fail
  go_loopg [10, 22] n (fun q vv iv wr => ∃ k : Nat, k ≤ n ∧ q = n - k ∧ vv = .int .u32 (acc ((ordd o z.data.toList).take k)) ∧ iv = .int .i64 k ∧ w1 = wr)
  case atStart => exact ⟨0, by omega, rfl, rfl, rfl, rfl⟩
  case round =>
    obtain ⟨k, hk, rfl, rfl, rfl, rfl⟩ := hrel
    have hl := Lib.size_eq z
    by_cases hlt : k < n
    · have st := acc_step o z.data.toList k (by omega)
      have lt := Nat.lt_of_lt_of_le (acc_lt ((ordd o z.data.toList).take k)) (Nat.pow_le_pow_right (by decide) (show _ ≤ 3 from by rw [List.length_take]; omega))
      obtain ⟨v, hv⟩ : ∃ v, acc ((ordd o z.data.toList).take k) = v := ⟨_, rfl⟩
      rw [hv] at st lt ⊢
      have ST := Lib.hid st
      have LT := Lib.hid lt
      clear st lt hv
      cases o with
      | true =>
        have hi : nxt true z.data.toList.length k = k := rfl
        have st' := ST.out
        simp only [hi] at st'
        rw [byte_at' z k (by omega) (by omega)] at st'
        have b255 := (z[k]'(by omega)).toNat_lt
        obtain ⟨c, hcz⟩ : ∃ c, (z[k]'(by omega)).toNat = c := ⟨_, rfl⟩
        rw [hcz] at st' b255
        have OR := or32 v c (by have := LT.out; omega) b255
        have SS := Lib.hid st'
        clear st'
        go_wp2
        go_roundg (n - (k + 1))
        case measure => omega
        case rel => exact ⟨k + 1, by omega, rfl, by rw [SS.out]; go_num, by go_num, rfl⟩
      | false =>
        have hi : nxt false z.data.toList.length k = 0 := by unfold nxt; rw [if_neg (by decide)]; omega
        have st' := ST.out
        simp only [hi] at st'
        rw [byte_at' z 0 (by omega) (by omega)] at st'
        have b255 := (z[0]'(by omega)).toNat_lt
        obtain ⟨c, hcz⟩ : ∃ c, (z[0]'(by omega)).toNat = c := ⟨_, rfl⟩
        rw [hcz] at st' b255
        have OR := or32 v c (by have := LT.out; omega) b255
        have SS := Lib.hid st'
        clear st'
        go_wp2
        go_roundg (n - (k + 1))
        case measure => omega
        case rel => exact ⟨k + 1, by omega, rfl, by rw [SS.out]; go_num, by go_num, rfl⟩
    · have hkn : k = n := by omega
      subst hkn
      have e1 : (ordd o z.data.toList).take k = ordd o z.data.toList := List.take_of_length_le (by rw [ordd_len, ← hl, hz]; exact Nat.le_refl _)
      rw [e1]
      have lt : acc (ordd o z.data.toList) < 256 := Nat.lt_of_lt_of_le (acc_lt _) (Nat.pow_le_pow_right (by decide) (show _ ≤ 1 from by rw [ordd_len]; omega))
      have e2 : wrap64 (acc (ordd o z.data.toList) : Int) = acc (ordd o z.data.toList) := IntWalk.wrap64_in _ (by omega)
      go_wp2
      go_ret2
      exact ⟨rfl, HW.out⟩

end Go.Proofs.YtnieeckdldpebaaGreat.Sr

/- Package src: the six numbers. -/
namespace Go.Proofs.YtnieeckdldpebaaGreat.Sr
open Go.ChangeShapes Go.WideShapes Go.ChangeAt Go.RowKit
open Go.Proofs.YtnieeckdldpebaaGreat.Le
set_option linter.unusedVariables false

theorem part_size (s : ByteArray) (p n : Nat) (h : p + n ≤ s.size) : (s.extract p (p + n)).size = n := by
  rw [ByteArray.size_extract]
  omega

theorem read8_no (b : Nat) (n : Int) (o : Bool) (w : World) (K : World → Prop)
    (hT : Calls Tryz.prog 50 #[.pointer (some ⟨b, 0, none⟩), .int .i64 n] w fun e w' => e = .returned (.tuple #[.string ⟨#[]⟩, .bool false]) ∧ K w') :
    Calls Tryz.prog 152 #[.pointer (some ⟨b, 0, none⟩), .int .i64 n, .bool o] w
      fun e w' => e = .returned (.tuple #[.int .i64 0, .bool false]) ∧ K w' := by
  have hK := Lib.hid hT
  clear hT
  go_enter Tryz.func152, Tryz.ntmps152
  go_wp2_with fail
  refine hK.out.mono ?_
  rintro e w1 ⟨rfl, hw⟩
  have HW := Lib.hid hw
  clear hw
  go_wp2
  go_ret2
  exact ⟨rfl, HW.out⟩

set_option maxRecDepth 100000 in
theorem u8_yes (b l : Nat) (s : ByteArray) (p f t : Nat) (x : St) (w : World) (h : So b l s p f t w) (hl : Led l x.ls w) (ok : x.Ok) (hn : rdB x p t 1 = true) :
    Calls Tryz.prog 128 #[.pointer (some ⟨b, 0, none⟩)] w
      fun e w' => e = .returned (.tuple #[.int .i64 (numV false (s.extract p (p + 1))), .bool true]) ∧ (So b l s (p + 1) f t w' ∧ Led l (x.work 1).1.ls w') ∧ Tn w w' [b, l] := by
  have hz := rd_of hn
  have h2 := h.ts
  have hT := (read8_go b l (s.extract p (p + 1)) 1 false w _ (part_size s p 1 (by omega)) (by decide) (take_yes b l s p f t 1 x w h hl ok hn))
  obtain ⟨V, hV⟩ : ∃ V : Int, ((numV false (s.extract p (p + 1))) : Int) = V := ⟨_, rfl⟩
  rw [hV] at hT ⊢
  have hK := Lib.hid hT
  clear h hl ok hn hz hV hT
  go_enter Tryz.func128, Tryz.ntmps128
  go_wp2_with fail
  refine hK.out.mono ?_
  rintro e w1 ⟨rfl, hw⟩
  have HW := Lib.hid hw
  clear hw
  go_wp2
  go_ret2
  exact ⟨rfl, HW.out⟩

set_option maxRecDepth 100000 in
theorem u8_no (b l : Nat) (s : ByteArray) (p f t : Nat) (x : St) (w : World) (h : So b l s p f t w) (hl : Led l x.ls w) (ok : x.Ok) (hn : rdB x p t 1 = false) :
    Calls Tryz.prog 128 #[.pointer (some ⟨b, 0, none⟩)] w
      fun e w' => e = .returned (.tuple #[.int .i64 0, .bool false]) ∧ (So b l s p f t w' ∧ Led l (x.work 1).1.ls w') ∧ w.grownBy w' (some l) := by
  have hK := Lib.hid (read8_no b 1 false w _ (take_no b l s p f t x 1 w h hl ok hn))
  clear h hl ok hn
  go_enter Tryz.func128, Tryz.ntmps128
  go_wp2_with fail
  refine hK.out.mono ?_
  rintro e w1 ⟨rfl, hw⟩
  have HW := Lib.hid hw
  clear hw
  go_wp2
  go_ret2
  exact ⟨rfl, HW.out⟩

end Go.Proofs.YtnieeckdldpebaaGreat.Sr

/- Layer 5's answers: numbers of bytes; and the chapter's example. -/
namespace Go.Proofs.YtnieeckdldpebaaGreat.Sr
open Go.ChangeShapes Go.WideShapes Go.ChangeAt Go.RowKit
open Go.Proofs.YtnieeckdldpebaaGreat.Le
set_option linter.unusedVariables false

set_option maxRecDepth 100000 in
set_option maxHeartbeats 2000000 in
theorem rle_calls (z : ByteArray) (w : World) (hz : z.size ≤ 4) :
    Calls Tryz.prog 47 #[.string z] w fun e w' => e = .returned (.int .i64 (numV false z)) ∧ w = w' := by
  have HL := Lib.hid (Lib.size_eq z)
  go_enter Tryz.func47, Tryz.ntmps47
  go_wp2_with fail
  go_loopg [3, 4] z.size (fun q vv iv wr => ∃ k : Nat, k ≤ z.size ∧ q = z.size - k ∧ vv = .int .i64 (acc ((ordd false z.data.toList).take k)) ∧ iv = .int .i64 ((z.size : Int) - 1 - k) ∧ w = wr)
  case atStart => exact ⟨0, by omega, rfl, rfl, by simp, rfl⟩
  case round =>
    obtain ⟨k, hk, rfl, rfl, rfl, rfl⟩ := hrel
    by_cases hlt : k < z.size
    · have hlt2 : z.size - 1 - k < z.size := by omega
      have hl := HL.out
      have st := acc_step false z.data.toList k (by omega)
      have lt := Nat.lt_of_lt_of_le (acc_lt ((ordd false z.data.toList).take k)) (Nat.pow_le_pow_right (by decide) (show _ ≤ 3 from by rw [List.length_take]; omega))
      obtain ⟨v, hv⟩ : ∃ v, acc ((ordd false z.data.toList).take k) = v := ⟨_, rfl⟩
      rw [hv] at st lt ⊢
      have hi : nxt false z.data.toList.length k = z.size - 1 - k := by unfold nxt; rw [if_neg (by decide)]; omega
      simp only [hi] at st
      rw [byte_at' z (z.size - 1 - k) hlt2 (by omega)] at st
      have b255 := (z[z.size - 1 - k]'hlt2).toNat_lt
      obtain ⟨c, hcz⟩ : ∃ c, (z[z.size - 1 - k]'hlt2).toNat = c := ⟨_, rfl⟩
      rw [hcz] at st b255
      have ST := Lib.hid st
      clear st hv hi hl
      go_wp2
      go_roundg (z.size - (k + 1))
      case measure => omega
      case rel => exact ⟨k + 1, by omega, rfl, by rw [ST.out]; go_num, by simp; omega, rfl⟩
    · have hl := HL.out
      have hkn : k = z.size := by omega
      have e1 : (ordd false z.data.toList).take k = ordd false z.data.toList := List.take_of_length_le (by rw [ordd_len]; omega)
      rw [e1]
      clear e1 hl
      go_wp2
      go_ret
      exact ⟨rfl, rfl⟩

end Go.Proofs.YtnieeckdldpebaaGreat.Sr

/- Layer 16, pure: what a head's bytes tell, and what is wrong with them; the code's small tests. -/
namespace Go.Proofs.YtnieeckdldpebaaGreat.Tg
open Go.ChangeShapes Go.WideShapes Go.ChangeAt Go.RowKit
open Go.Proofs.YtnieeckdldpebaaGreat.Le Go.Proofs.YtnieeckdldpebaaGreat.Sr
set_option linter.unusedVariables false

/-- Byte i of a text, as a number. -/
def bn (s : ByteArray) (i : Nat) : Nat := (s.data.toList.getD i 0).toNat
theorem bn_at (s : ByteArray) (k : Nat) (h : k < s.size) : (s[k]'h).toNat = bn s k := by
  have h1 := Go.Proofs.byte_at s k h
  unfold bn
  rw [List.getD_eq_getElem?_getD, h1]
  rfl
theorem bn_lt (s : ByteArray) (k : Nat) : bn s k < 256 := UInt8.toNat_lt _
theorem bn_cell (s : ByteArray) (k : Nat) (h : k < s.size) {c : Nat} (e : bn s k = c) : ((s[k]'h).toNat : Int) = (c : Int) := by rw [bn_at, e]
/-- Two bytes, the lowest first. -/
def wd (s : ByteArray) (i : Nat) : Nat := bn s i + 256 * bn s (i + 1)
theorem wd_lt (s : ByteArray) (i : Nat) : wd s i < 65536 := by
  have h1 := bn_lt s i
  have h2 := bn_lt s (i + 1)
  unfold wd
  omega

def colB (n : Nat) : Bool := decide (n = 15 ∨ n = 16 ∨ n = 24 ∨ n = 32)
def pln (t : Nat) : Nat := if 9 ≤ t ∧ t ≤ 11 then t - 8 else t
def typB (t : Nat) : Bool := decide (1 ≤ pln t ∧ pln t ≤ 3)
def dpB (d t : Nat) : Bool := if pln t = 2 then colB d else decide (d = 8)
def alB (a d : Nat) : Bool := decide (a = 0 ∨ (d = 16 ∧ a = 1) ∨ (d = 32 ∧ a = 8))
def mpB (s : ByteArray) : Bool := decide (bn s 1 = 1)

/-- Is check number k what is wrong? -/
def ck (s : ByteArray) : Nat → Bool
  | 0 => decide (1 < bn s 1)
  | 1 => !(typB (bn s 2))
  | 2 => decide (pln (bn s 2) = 1) && !(mpB s)
  | 3 => mpB s && !(colB (bn s 7))
  | 4 => mpB s && decide (wd s 5 = 0)
  | 5 => decide (wd s 12 = 0)
  | 6 => decide (16384 < wd s 12)
  | 7 => decide (wd s 14 = 0)
  | 8 => decide (16384 < wd s 14)
  | 9 => !(dpB (bn s 16) (bn s 2))
  | 10 => decide (64 ≤ bn s 17)
  | 11 => !(alB (bn s 17 % 16) (bn s 16))
  | _ => true
def kdK : Nat → Int
  | 0 => 2 | 1 => 3 | 2 => 2 | 3 => 3 | 4 => 2 | 5 => 2 | 6 => 3 | 7 => 2 | 8 => 3 | 9 => 3 | 10 => 3 | 11 => 2 | _ => 0
def plK : Nat → Int
  | 0 => 1 | 1 => 2 | 2 => 1 | 3 => 7 | 4 => 5 | 5 => 12 | 6 => 12 | 7 => 14 | 8 => 14 | 9 => 16 | 10 => 17 | 11 => 17 | _ => 0
/-- K is the first check that tells something; 12: there is none. -/
structure Ck (s : ByteArray) (K : Nat) : Prop where
  le : K ≤ 12
  yes : ck s K = true
  no : ∀ j, j < K → ck s j = false
theorem ck_first (s : ByteArray) : ∀ n, n ≤ 12 → (∀ j, j < 12 - n → ck s j = false) → ∃ K, Ck s K
  | 0, _, h => ⟨12, Nat.le_refl _, rfl, h⟩
  | n + 1, hn, h => by
    cases hk : ck s (12 - (n + 1)) with
    | true => exact ⟨12 - (n + 1), by omega, hk, h⟩
    | false => exact ck_first s n (by omega) (fun j hj => by
        by_cases e : j = 12 - (n + 1)
        · rw [e]; exact hk
        · exact h j (by omega))
theorem ck_ex (s : ByteArray) : ∃ K, Ck s K := ck_first s 12 (Nat.le_refl _) (fun j hj => absurd hj (by omega))

/-- A head's fields, as the code has them. -/
def fst (s : ByteArray) : Nat := if mpB s then wd s 3 else 0
def cnt (s : ByteArray) : Nat := if mpB s then wd s 5 else 0
def ent (s : ByteArray) : Nat := if mpB s then bn s 7 else 0
def alp (s : ByteArray) : Nat := bn s 17 % 16
def lft (s : ByteArray) : Bool := decide (bn s 17 / 16 % 2 = 1)
def tpp (s : ByteArray) : Bool := decide (bn s 17 / 32 % 2 = 1)
def hA (s : ByteArray) : Array Value := #[.int .i64 (bn s 0), .bool (mpB s), .int .i64 (bn s 2), .int .i64 (fst s), .int .i64 (cnt s), .int .i64 (ent s), .int .i64 (wd s 12), .int .i64 (wd s 14), .int .i64 (bn s 16), .int .i64 (alp s), .bool (lft s), .bool (tpp s)]

theorem packed_calls (k : Int) (W : World) : Calls Tryz.prog 102 #[.int .i64 k] W fun e w' => e = .returned (.bool (decide (9 ≤ k) && decide (k ≤ 11))) ∧ W = w' := by
  by_cases h : 9 ≤ k
  · rw [show (decide (9 ≤ k) && decide (k ≤ 11)) = decide (k ≤ 11) from by simp [h]]
    go_enter Tryz.func102, Tryz.ntmps102
    go_wp2
    go_ret
    exact ⟨rfl, rfl⟩
  · rw [show (decide (9 ≤ k) && decide (k ≤ 11)) = false from by simp [h]]
    have h' : k < 9 := by omega
    clear h
    go_enter Tryz.func102, Tryz.ntmps102
    go_wp2
    go_ret
    exact ⟨rfl, rfl⟩

theorem plain_calls (t : Nat) (ht : t < 256) (W : World) : Calls Tryz.prog 77 #[.int .i64 t] W fun e w' => e = .returned (.int .i64 (pln t)) ∧ W = w' := by
  have K := fun u => packed_calls (t : Int) u
  by_cases h : 9 ≤ t ∧ t ≤ 11
  · have e : (decide ((9 : Int) ≤ t) && decide ((t : Int) ≤ 11)) = true := by simp; omega
    rw [e] at K
    rw [show ((pln t : Nat) : Int) = (t : Int) - 8 from by unfold pln; rw [if_pos h]; omega]
    have HK := Lib.hid K
    clear K e
    go_enter Tryz.func77, Tryz.ntmps77
    go_wp2_with fail
    refine (HK.out _).mono ?_
    rintro e w' ⟨rfl, rfl⟩
    go_wp2
    go_ret
    exact ⟨by go_num, rfl⟩
  · have e : (decide ((9 : Int) ≤ t) && decide ((t : Int) ≤ 11)) = false := by simp; omega
    rw [e] at K
    rw [show ((pln t : Nat) : Int) = (t : Int) from by unfold pln; rw [if_neg h]]
    have HK := Lib.hid K
    clear K e
    go_enter Tryz.func77, Tryz.ntmps77
    go_wp2_with fail
    refine (HK.out _).mono ?_
    rintro e w' ⟨rfl, rfl⟩
    go_wp2
    go_ret
    exact ⟨rfl, rfl⟩

theorem isType_calls (t : Nat) (ht : t < 256) (W : World) : Calls Tryz.prog 75 #[.int .i64 t] W fun e w' => e = .returned (.bool (typB t)) ∧ W = w' := by
  have K := Lib.hid (fun u => plain_calls t ht u)
  have e0 : typB t = (decide ((1 : Int) ≤ (pln t : Nat)) && decide (((pln t : Nat) : Int) ≤ 3)) := by
    unfold typB
    rw [Bool.eq_iff_iff]
    simp
    omega
  rw [e0]
  obtain ⟨x, hx⟩ : ∃ x, pln t = x := ⟨_, rfl⟩
  rw [hx] at K ⊢
  clear e0 hx
  by_cases h : (1 : Int) ≤ x
  · rw [show (decide ((1 : Int) ≤ x) && decide ((x : Int) ≤ 3)) = decide ((x : Int) ≤ 3) from by simp [h]]
    go_enter Tryz.func75, Tryz.ntmps75
    go_wp2_with fail
    refine (K.out _).mono ?_
    rintro e w' ⟨rfl, rfl⟩
    go_wp2_with fail
    refine (K.out _).mono ?_
    rintro e w' ⟨rfl, rfl⟩
    go_wp2
    go_ret
    exact ⟨rfl, rfl⟩
  · rw [show (decide ((1 : Int) ≤ x) && decide ((x : Int) ≤ 3)) = false from by simp [h]]
    have h' : (x : Int) < 1 := by omega
    clear h
    go_enter Tryz.func75, Tryz.ntmps75
    go_wp2_with fail
    refine (K.out _).mono ?_
    rintro e w' ⟨rfl, rfl⟩
    go_wp2
    go_ret
    exact ⟨rfl, rfl⟩

theorem isColor_calls (n : Nat) (W : World) : Calls Tryz.prog 79 #[.int .i64 n] W fun e w' => e = .returned (.bool (colB n)) ∧ W = w' := by
  by_cases h : n = 15 ∨ n = 16 ∨ n = 24 ∨ n = 32
  · rw [show colB n = true from by unfold colB; exact decide_eq_true h]
    obtain rfl | rfl | rfl | rfl := h
    all_goals
      go_enter Tryz.func79, Tryz.ntmps79
      go_wp2
      go_ret
      exact ⟨rfl, rfl⟩
  · rw [show colB n = false from by unfold colB; exact decide_eq_false h]
    have h1 : ((n : Int) == 15) = false := by rw [beq_eq_false_iff_ne]; omega
    have h2 : ((n : Int) == 16) = false := by rw [beq_eq_false_iff_ne]; omega
    have h3 : ((n : Int) == 24) = false := by rw [beq_eq_false_iff_ne]; omega
    have h4 : ((n : Int) == 32) = false := by rw [beq_eq_false_iff_ne]; omega
    clear h
    go_enter Tryz.func79, Tryz.ntmps79
    go_wp2
    go_ret
    exact ⟨rfl, rfl⟩

theorem rcolor_calls (n : Nat) (W : World) : Calls Tryz.prog 48 #[.int .i64 n] W fun e w' => e = .returned (.bool (colB n)) ∧ W = w' := by
  by_cases h : n = 15 ∨ n = 16 ∨ n = 24 ∨ n = 32
  · rw [show colB n = true from by unfold colB; exact decide_eq_true h]
    obtain rfl | rfl | rfl | rfl := h
    all_goals
      go_enter Tryz.func48, Tryz.ntmps48
      go_wp2
      go_ret
      exact ⟨rfl, rfl⟩
  · rw [show colB n = false from by unfold colB; exact decide_eq_false h]
    have h1 : ((n : Int) == 15) = false := by rw [beq_eq_false_iff_ne]; omega
    have h2 : ((n : Int) == 16) = false := by rw [beq_eq_false_iff_ne]; omega
    have h3 : ((n : Int) == 24) = false := by rw [beq_eq_false_iff_ne]; omega
    have h4 : ((n : Int) == 32) = false := by rw [beq_eq_false_iff_ne]; omega
    clear h
    go_enter Tryz.func48, Tryz.ntmps48
    go_wp2
    go_ret
    exact ⟨rfl, rfl⟩

theorem isDepth_calls (d t : Nat) (ht : t < 256) (W : World) : Calls Tryz.prog 86 #[.int .i64 d, .int .i64 t] W fun e w' => e = .returned (.bool (dpB d t)) ∧ W = w' := by
  have K := fun u => plain_calls t ht u
  have KC := Lib.hid (fun u => isColor_calls d u)
  unfold dpB
  obtain ⟨x, hx⟩ : ∃ x, pln t = x := ⟨_, rfl⟩
  rw [hx]
  simp only [hx] at K
  have HK := Lib.hid K
  clear K hx
  by_cases h : x = 2
  · subst h
    rw [if_pos rfl]
    go_enter Tryz.func86, Tryz.ntmps86
    go_wp2_with fail
    refine (HK.out _).mono ?_
    rintro e w' ⟨rfl, rfl⟩
    go_wp2_with fail
    refine (KC.out _).mono ?_
    rintro e w' ⟨rfl, rfl⟩
    go_wp2
    go_ret
    exact ⟨rfl, rfl⟩
  · rw [if_neg h]
    have h' : ((x : Int) == 2) = false := by rw [beq_eq_false_iff_ne]; omega
    have e : decide (d = 8) = ((d : Int) == 8) := by rw [Bool.eq_iff_iff]; simp; omega
    rw [e]
    clear h e
    go_enter Tryz.func86, Tryz.ntmps86
    go_wp2_with fail
    refine (HK.out _).mono ?_
    rintro e w' ⟨rfl, rfl⟩
    go_wp2
    go_ret
    exact ⟨rfl, rfl⟩

theorem isAlpha_calls (a d : Nat) (W : World) : Calls Tryz.prog 89 #[.int .i64 a, .int .i64 d] W fun e w' => e = .returned (.bool (alB a d)) ∧ W = w' := by
  by_cases h0 : a = 0
  · subst h0
    rw [show alB 0 d = true from by unfold alB; simp]
    go_enter Tryz.func89, Tryz.ntmps89
    go_wp2
    go_ret
    exact ⟨rfl, rfl⟩
  have d0 : ((a : Int) == 0) = false := by rw [beq_eq_false_iff_ne]; omega
  by_cases h1 : d = 16
  · subst h1
    rw [show alB a 16 = ((a : Int) == 1) from by unfold alB; rw [Bool.eq_iff_iff]; simp; omega]
    clear h0
    go_enter Tryz.func89, Tryz.ntmps89
    go_wp2
    go_ret
    exact ⟨rfl, rfl⟩
  have d1 : ((d : Int) == 16) = false := by rw [beq_eq_false_iff_ne]; omega
  by_cases h2 : d = 32
  · subst h2
    rw [show alB a 32 = ((a : Int) == 8) from by unfold alB; rw [Bool.eq_iff_iff]; simp; omega]
    clear h0 h1
    go_enter Tryz.func89, Tryz.ntmps89
    go_wp2
    go_ret
    exact ⟨rfl, rfl⟩
  have d2 : ((d : Int) == 32) = false := by rw [beq_eq_false_iff_ne]; omega
  rw [show alB a d = false from by unfold alB; apply decide_eq_false; omega]
  clear h0 h1 h2
  go_enter Tryz.func89, Tryz.ntmps89
  go_wp2
  go_ret
  exact ⟨rfl, rfl⟩

theorem or_high (a b : Nat) (ha : a < 256) (hb : b < 256) : bits .or .i64 (a : Int) ((b : Int) * 256) = (a : Int) + 256 * b := by
  have hn : a ||| (b * 256) = a + 256 * b := by
    have := Nat.shiftLeft_add_eq_or_of_lt (i := 8) (b := a) (by omega) b
    rw [Nat.or_comm, show b * 256 = b <<< 8 from by rw [Nat.shiftLeft_eq], ← this, Nat.shiftLeft_eq]
    omega
  have h1 : (BitVec.ofInt 64 (a : Int)).toNat = a := by
    rw [BitVec.ofInt_natCast, BitVec.toNat_ofNat]; exact Nat.mod_eq_of_lt (by omega)
  have h2 : (BitVec.ofInt 64 ((b * 256 : Nat) : Int)).toNat = b * 256 := by
    rw [BitVec.ofInt_natCast, BitVec.toNat_ofNat]; exact Nat.mod_eq_of_lt (by omega)
  have e : (b : Int) * 256 = ((b * 256 : Nat) : Int) := by omega
  rw [e]
  show IntKind.i64.wrap ((BitVec.ofInt 64 (a : Int) ||| BitVec.ofInt 64 ((b * 256 : Nat) : Int)).toNat : Int) = _
  rw [BitVec.toNat_or, h1, h2, hn, IntKind.wrap_i64]
  omega

set_option maxRecDepth 100000 in
theorem word_calls (s : ByteArray) (k a b : Nat) (W : World) (hk : k + 1 < s.size) (hm : s.size ≤ 9223372036854775807) (h0 : bn s k = a) (h1 : bn s (k + 1) = b) :
    Calls Tryz.prog 90 #[.string s, .int .i64 k] W fun e w' => e = .returned (.int .i64 ((a : Int) + 256 * b)) ∧ ∃ n, w' = W.drewN n := by
  have ha := bn_lt s k
  have hb := bn_lt s (k + 1)
  rw [h0] at ha
  rw [h1] at hb
  have hor := or_high a b ha hb
  have g0 : ((s[k]'(by omega)).toNat : Int) = (a : Int) := bn_cell s k (by omega) h0
  have g1 : ((s[k + 1]'(by omega)).toNat : Int) = (b : Int) := bn_cell s (k + 1) (by omega) h1
  obtain ⟨z, hz⟩ : ∃ z, (a : Int) + 256 * b = z := ⟨_, rfl⟩
  rw [hz] at hor ⊢
  have s1 : IntKind.i64.wrap ((b : Int) * 256) = (b : Int) * 256 := by rw [IntKind.wrap_i64]; omega
  clear h0 h1 hz
  go_enter Tryz.func90, Tryz.ntmps90
  go_wp2_with fail
  go_quiet (fail)
  go_wp2
  go_ret
  exact ⟨rfl, _, rfl⟩

end Go.Proofs.YtnieeckdldpebaaGreat.Tg

/- Layer 16: the code's checks, each walked. -/
namespace Go.Proofs.YtnieeckdldpebaaGreat.Tg
open Go.ChangeShapes Go.WideShapes Go.ChangeAt Go.RowKit
open Go.Proofs.YtnieeckdldpebaaGreat.Le Go.Proofs.YtnieeckdldpebaaGreat.Sr
set_option linter.unusedVariables false

/-- Block b is a head's fields; block b is a text. -/
def HB (b : Nat) (s : ByteArray) (w : World) : Prop := w.heap[b]? = some (.cells (hA s) 55 (0, 0))
def BB (b : Nat) (s : ByteArray) (w : World) : Prop := w.heap[b]? = some (.cells #[.string s] 9 (0, 0))
theorem HB.grown {b : Nat} {s : ByteArray} {w w' : World} (h : HB b s w) (g : w.grownBy w' none) : HB b s w' := old0 g h (blk_lt h) (by simp)
theorem BB.grown {b : Nat} {s : ByteArray} {w w' : World} (h : BB b s w) (g : w.grownBy w' none) : BB b s w' := old0 g h (blk_lt h) (by simp)
theorem BB.c0 {b : Nat} {s : ByteArray} {w : World} (h : BB b s w) : w.cell? ⟨b, 0, none⟩ = some (.string s) := blk_cell h 0
theorem HB.c0 {b : Nat} {s : ByteArray} {w : World} (h : HB b s w) : w.cell? ⟨b, 0, none⟩ = some (.int .i64 (bn s 0)) := blk_cell h 0

theorem HB.c1 {b : Nat} {s : ByteArray} {w : World} (h : HB b s w) : w.cell? ⟨b, 1, none⟩ = some (.bool (mpB s)) := blk_cell h 1

theorem HB.c2 {b : Nat} {s : ByteArray} {w : World} (h : HB b s w) : w.cell? ⟨b, 2, none⟩ = some (.int .i64 (bn s 2)) := blk_cell h 2

theorem HB.c3 {b : Nat} {s : ByteArray} {w : World} (h : HB b s w) : w.cell? ⟨b, 3, none⟩ = some (.int .i64 (fst s)) := blk_cell h 3

theorem HB.c4 {b : Nat} {s : ByteArray} {w : World} (h : HB b s w) : w.cell? ⟨b, 4, none⟩ = some (.int .i64 (cnt s)) := blk_cell h 4

theorem HB.c5 {b : Nat} {s : ByteArray} {w : World} (h : HB b s w) : w.cell? ⟨b, 5, none⟩ = some (.int .i64 (ent s)) := blk_cell h 5

theorem HB.c6 {b : Nat} {s : ByteArray} {w : World} (h : HB b s w) : w.cell? ⟨b, 6, none⟩ = some (.int .i64 (wd s 12)) := blk_cell h 6

theorem HB.c7 {b : Nat} {s : ByteArray} {w : World} (h : HB b s w) : w.cell? ⟨b, 7, none⟩ = some (.int .i64 (wd s 14)) := blk_cell h 7

theorem HB.c8 {b : Nat} {s : ByteArray} {w : World} (h : HB b s w) : w.cell? ⟨b, 8, none⟩ = some (.int .i64 (bn s 16)) := blk_cell h 8

theorem HB.c9 {b : Nat} {s : ByteArray} {w : World} (h : HB b s w) : w.cell? ⟨b, 9, none⟩ = some (.int .i64 (alp s)) := blk_cell h 9

theorem HB.c10 {b : Nat} {s : ByteArray} {w : World} (h : HB b s w) : w.cell? ⟨b, 10, none⟩ = some (.bool (lft s)) := blk_cell h 10

theorem HB.c11 {b : Nat} {s : ByteArray} {w : World} (h : HB b s w) : w.cell? ⟨b, 11, none⟩ = some (.bool (tpp s)) := blk_cell h 11


set_option maxRecDepth 100000 in
theorem cl0 (b : Nat) (s : ByteArray) (W : World) (H : BB b s W) (h18 : 18 ≤ s.size) (hm : s.size ≤ 9223372036854775807) :
    Calls Tryz.prog 73 #[.pointer (some ⟨b, 0, none⟩)] W fun e w' => e = .returned (.bool (ck s 0)) ∧ W.grownBy w' none := by
  have c0 := H.c0
  have hx := bn_lt s 1
  obtain ⟨x, ex⟩ : ∃ x, bn s 1 = x := ⟨_, rfl⟩
  have g0 : ((s[1]'(by omega)).toNat : Int) = (x : Int) := bn_cell s 1 (by omega) ex
  rw [show ck s 0 = decide ((1 : Int) < x) from by show decide (1 < bn s 1) = _; rw [ex, Bool.eq_iff_iff]; simp; omega]
  clear H ex
  go_enter Tryz.func73, Tryz.ntmps73
  go_wp2_with fail
  try go_quiet (fail)
  go_wp2
  go_ret
  exact ⟨rfl, by first | exact gb_drewN _ _ _ | exact gb_refl _ _⟩


set_option maxRecDepth 100000 in
theorem cl10 (b : Nat) (s : ByteArray) (W : World) (H : BB b s W) (h18 : 18 ≤ s.size) (hm : s.size ≤ 9223372036854775807) :
    Calls Tryz.prog 87 #[.pointer (some ⟨b, 0, none⟩)] W fun e w' => e = .returned (.bool (ck s 10)) ∧ W.grownBy w' none := by
  have c0 := H.c0
  have hx := bn_lt s 17
  obtain ⟨x, ex⟩ : ∃ x, bn s 17 = x := ⟨_, rfl⟩
  have g0 : ((s[17]'(by omega)).toNat : Int) = (x : Int) := bn_cell s 17 (by omega) ex
  have ea : bits .and .u8 (x : Int) 192 = ((x &&& 192 : Nat) : Int) := by
    have h1 : (BitVec.ofInt 8 (x : Int)).toNat = x := by rw [BitVec.ofInt_natCast, BitVec.toNat_ofNat]; exact Nat.mod_eq_of_lt (by omega)
    have h2 := @Nat.and_le_right x 192
    unfold bits
    show IntKind.u8.wrap (((BitVec.ofInt 8 (x : Int)) &&& (BitVec.ofInt 8 192)).toNat : Int) = _
    rw [BitVec.toNat_and, h1, show (BitVec.ofInt 8 192).toNat = 192 from by decide, IntKind.wrap_u8]
    omega
  rw [show ck s 10 = (((x &&& 192 : Nat) : Int) != 0) from by
    show decide (64 ≤ bn s 17) = _
    have key : ∀ x : Nat, x < 256 → decide (64 ≤ x) = (((x &&& 192 : Nat) : Int) != 0) := by decide
    rw [ex] at hx ⊢
    exact key x hx]
  obtain ⟨y, ey⟩ : ∃ y, ((x &&& 192 : Nat) : Int) = y := ⟨_, rfl⟩
  rw [ey] at ea ⊢
  clear H ex ey
  go_enter Tryz.func87, Tryz.ntmps87
  go_wp2_with fail
  try go_quiet (fail)
  go_wp2
  go_ret
  exact ⟨rfl, by first | exact gb_drewN _ _ _ | exact gb_refl _ _⟩


set_option maxRecDepth 100000 in
theorem cl1 (b : Nat) (s : ByteArray) (W : World) (H : HB b s W) :
    Calls Tryz.prog 74 #[.pointer (some ⟨b, 0, none⟩)] W fun e w' => e = .returned (.bool (ck s 1)) ∧ W.grownBy w' none := by
  have c := H.c2
  have K := Lib.hid (fun u => isType_calls (bn s 2) (bn_lt s 2) u)
  show Calls _ _ _ _ fun e w' => e = .returned (.bool (!(typB (bn s 2)))) ∧ W.grownBy w' none
  obtain ⟨x, ex⟩ : ∃ x, bn s 2 = x := ⟨_, rfl⟩
  obtain ⟨y, ey⟩ : ∃ y, typB (bn s 2) = y := ⟨_, rfl⟩
  rw [ey] at K ⊢
  rw [ex] at K c
  clear H ex ey
  go_enter Tryz.func74, Tryz.ntmps74
  go_wp2_with fail
  refine (K.out _).mono ?_
  rintro e w' ⟨rfl, rfl⟩
  go_wp2
  go_ret
  exact ⟨rfl, gb_refl _ _⟩


set_option maxRecDepth 100000 in
theorem cl2 (b : Nat) (s : ByteArray) (W : World) (H : HB b s W) :
    Calls Tryz.prog 76 #[.pointer (some ⟨b, 0, none⟩)] W fun e w' => e = .returned (.bool (ck s 2)) ∧ W.grownBy w' none := by
  have c := H.c2
  have c1 := H.c1
  have K := Lib.hid (fun u => plain_calls (bn s 2) (bn_lt s 2) u)
  show Calls _ _ _ _ fun e w' => e = .returned (.bool (decide (pln (bn s 2) = 1) && !(mpB s))) ∧ W.grownBy w' none
  obtain ⟨x, ex⟩ : ∃ x, bn s 2 = x := ⟨_, rfl⟩
  obtain ⟨y, ey⟩ : ∃ y, pln (bn s 2) = y := ⟨_, rfl⟩
  obtain ⟨z, ez⟩ : ∃ z, mpB s = z := ⟨_, rfl⟩
  rw [ey] at K ⊢
  rw [ex] at K c
  rw [ez] at c1 ⊢
  clear H ex ey ez
  by_cases h : y = 1
  · subst h
    rw [show (decide (1 = 1) && !z) = !z from by simp]
    go_enter Tryz.func76, Tryz.ntmps76
    go_wp2_with fail
    refine (K.out _).mono ?_
    rintro e w' ⟨rfl, rfl⟩
    go_wp2
    go_ret
    exact ⟨rfl, gb_refl _ _⟩
  · rw [show (decide (y = 1) && !z) = false from by simp [h]]
    have h' : ((y : Int) == 1) = false := by rw [beq_eq_false_iff_ne]; omega
    clear h
    go_enter Tryz.func76, Tryz.ntmps76
    go_wp2_with fail
    refine (K.out _).mono ?_
    rintro e w' ⟨rfl, rfl⟩
    go_wp2
    go_ret
    exact ⟨rfl, gb_refl _ _⟩


set_option maxRecDepth 100000 in
theorem cl3 (b : Nat) (s : ByteArray) (W : World) (H : HB b s W) :
    Calls Tryz.prog 78 #[.pointer (some ⟨b, 0, none⟩)] W fun e w' => e = .returned (.bool (ck s 3)) ∧ W.grownBy w' none := by
  have c := H.c1
  have c5 := H.c5
  have K := Lib.hid (fun u => isColor_calls (ent s) u)
  cases hz : mpB s with
  | false =>
    rw [hz] at c
    show Calls _ _ _ _ fun e w' => e = .returned (.bool (mpB s && !(colB (bn s 7)))) ∧ W.grownBy w' none
    rw [hz, Bool.false_and]
    clear H hz K
    go_enter Tryz.func78, Tryz.ntmps78
    go_wp2
    go_ret
    exact ⟨rfl, gb_refl _ _⟩
  | true =>
    rw [hz] at c
    show Calls _ _ _ _ fun e w' => e = .returned (.bool (mpB s && !(colB (bn s 7)))) ∧ W.grownBy w' none
    have he : ent s = bn s 7 := by unfold ent; rw [if_pos hz]
    rw [hz, Bool.true_and, ← he]
    obtain ⟨x, ex⟩ : ∃ x, ent s = x := ⟨_, rfl⟩
    rw [ex] at K c5 ⊢
    obtain ⟨y, ey⟩ : ∃ y, colB x = y := ⟨_, rfl⟩
    rw [ey] at K ⊢
    clear H hz he ex ey
    go_enter Tryz.func78, Tryz.ntmps78
    go_wp2_with fail
    refine (K.out _).mono ?_
    rintro e w' ⟨rfl, rfl⟩
    go_wp2
    go_ret
    exact ⟨rfl, gb_refl _ _⟩


set_option maxRecDepth 100000 in
theorem cl4 (b : Nat) (s : ByteArray) (W : World) (H : HB b s W) :
    Calls Tryz.prog 80 #[.pointer (some ⟨b, 0, none⟩)] W fun e w' => e = .returned (.bool (ck s 4)) ∧ W.grownBy w' none := by
  have c := H.c1
  have c4 := H.c4
  cases hz : mpB s with
  | false =>
    rw [hz] at c
    show Calls _ _ _ _ fun e w' => e = .returned (.bool (mpB s && decide (wd s 5 = 0))) ∧ W.grownBy w' none
    rw [hz, Bool.false_and]
    clear H hz
    go_enter Tryz.func80, Tryz.ntmps80
    go_wp2
    go_ret
    exact ⟨rfl, gb_refl _ _⟩
  | true =>
    rw [hz] at c
    show Calls _ _ _ _ fun e w' => e = .returned (.bool (mpB s && decide (wd s 5 = 0))) ∧ W.grownBy w' none
    have he : cnt s = wd s 5 := by unfold cnt; rw [if_pos hz]
    rw [hz, Bool.true_and, ← he]
    obtain ⟨x, ex⟩ : ∃ x, cnt s = x := ⟨_, rfl⟩
    rw [ex] at c4 ⊢
    rw [show decide (x = 0) = ((x : Int) == 0) from by rw [Bool.eq_iff_iff]; simp]
    clear H hz he ex
    go_enter Tryz.func80, Tryz.ntmps80
    go_wp2
    go_ret
    exact ⟨rfl, gb_refl _ _⟩


set_option maxRecDepth 100000 in
theorem cl5 (b : Nat) (s : ByteArray) (W : World) (H : HB b s W) :
    Calls Tryz.prog 81 #[.pointer (some ⟨b, 0, none⟩)] W fun e w' => e = .returned (.bool (ck s 5)) ∧ W.grownBy w' none := by
  have c := H.c6
  show Calls _ _ _ _ fun e w' => e = .returned (.bool (decide (wd s 12 = 0))) ∧ W.grownBy w' none
  obtain ⟨x, ex⟩ : ∃ x, wd s 12 = x := ⟨_, rfl⟩
  rw [ex] at c ⊢
  rw [show decide (x = 0) = ((x : Int) == 0) from by rw [Bool.eq_iff_iff]; simp]
  clear H ex
  go_enter Tryz.func81, Tryz.ntmps81
  go_wp2
  go_ret
  exact ⟨rfl, gb_refl _ _⟩


set_option maxRecDepth 100000 in
theorem cl6 (b : Nat) (s : ByteArray) (W : World) (H : HB b s W) :
    Calls Tryz.prog 82 #[.pointer (some ⟨b, 0, none⟩)] W fun e w' => e = .returned (.bool (ck s 6)) ∧ W.grownBy w' none := by
  have c := H.c6
  show Calls _ _ _ _ fun e w' => e = .returned (.bool (decide (16384 < wd s 12))) ∧ W.grownBy w' none
  obtain ⟨x, ex⟩ : ∃ x, wd s 12 = x := ⟨_, rfl⟩
  rw [ex] at c ⊢
  rw [show decide (16384 < x) = decide ((16384 : Int) < x) from by rw [Bool.eq_iff_iff]; simp; omega]
  clear H ex
  go_enter Tryz.func82, Tryz.ntmps82
  go_wp2
  go_ret
  exact ⟨rfl, gb_refl _ _⟩


set_option maxRecDepth 100000 in
theorem cl7 (b : Nat) (s : ByteArray) (W : World) (H : HB b s W) :
    Calls Tryz.prog 83 #[.pointer (some ⟨b, 0, none⟩)] W fun e w' => e = .returned (.bool (ck s 7)) ∧ W.grownBy w' none := by
  have c := H.c7
  show Calls _ _ _ _ fun e w' => e = .returned (.bool (decide (wd s 14 = 0))) ∧ W.grownBy w' none
  obtain ⟨x, ex⟩ : ∃ x, wd s 14 = x := ⟨_, rfl⟩
  rw [ex] at c ⊢
  rw [show decide (x = 0) = ((x : Int) == 0) from by rw [Bool.eq_iff_iff]; simp]
  clear H ex
  go_enter Tryz.func83, Tryz.ntmps83
  go_wp2
  go_ret
  exact ⟨rfl, gb_refl _ _⟩


set_option maxRecDepth 100000 in
theorem cl8 (b : Nat) (s : ByteArray) (W : World) (H : HB b s W) :
    Calls Tryz.prog 84 #[.pointer (some ⟨b, 0, none⟩)] W fun e w' => e = .returned (.bool (ck s 8)) ∧ W.grownBy w' none := by
  have c := H.c7
  show Calls _ _ _ _ fun e w' => e = .returned (.bool (decide (16384 < wd s 14))) ∧ W.grownBy w' none
  obtain ⟨x, ex⟩ : ∃ x, wd s 14 = x := ⟨_, rfl⟩
  rw [ex] at c ⊢
  rw [show decide (16384 < x) = decide ((16384 : Int) < x) from by rw [Bool.eq_iff_iff]; simp; omega]
  clear H ex
  go_enter Tryz.func84, Tryz.ntmps84
  go_wp2
  go_ret
  exact ⟨rfl, gb_refl _ _⟩


set_option maxRecDepth 100000 in
theorem cl9 (b : Nat) (s : ByteArray) (W : World) (H : HB b s W) :
    Calls Tryz.prog 85 #[.pointer (some ⟨b, 0, none⟩)] W fun e w' => e = .returned (.bool (ck s 9)) ∧ W.grownBy w' none := by
  have c := H.c8
  have c2 := H.c2
  have K := Lib.hid (fun u => isDepth_calls (bn s 16) (bn s 2) (bn_lt s 2) u)
  show Calls _ _ _ _ fun e w' => e = .returned (.bool (!(dpB (bn s 16) (bn s 2)))) ∧ W.grownBy w' none
  obtain ⟨z, ez⟩ : ∃ z, dpB (bn s 16) (bn s 2) = z := ⟨_, rfl⟩
  obtain ⟨x, ex⟩ : ∃ x, bn s 16 = x := ⟨_, rfl⟩
  obtain ⟨y, ey⟩ : ∃ y, bn s 2 = y := ⟨_, rfl⟩
  rw [ez] at K ⊢
  rw [ex] at K c
  rw [ey] at K c2
  clear H ex ey ez
  go_enter Tryz.func85, Tryz.ntmps85
  go_wp2_with fail
  try go_quiet (fail)
  refine (K.out _).mono ?_
  rintro e w' ⟨rfl, rfl⟩
  go_wp2
  go_ret
  exact ⟨rfl, by first | exact gb_drewN _ _ _ | exact gb_refl _ _⟩


set_option maxRecDepth 100000 in
theorem cl11 (b : Nat) (s : ByteArray) (W : World) (H : HB b s W) :
    Calls Tryz.prog 88 #[.pointer (some ⟨b, 0, none⟩)] W fun e w' => e = .returned (.bool (ck s 11)) ∧ W.grownBy w' none := by
  have c := H.c9
  have c2 := H.c8
  have K := Lib.hid (fun u => isAlpha_calls (alp s) (bn s 16)  u)
  show Calls _ _ _ _ fun e w' => e = .returned (.bool (!(alB (alp s) (bn s 16)))) ∧ W.grownBy w' none
  obtain ⟨z, ez⟩ : ∃ z, alB (alp s) (bn s 16) = z := ⟨_, rfl⟩
  obtain ⟨x, ex⟩ : ∃ x, alp s = x := ⟨_, rfl⟩
  obtain ⟨y, ey⟩ : ∃ y, bn s 16 = y := ⟨_, rfl⟩
  rw [ez] at K ⊢
  rw [ex] at K c
  rw [ey] at K c2
  clear H ex ey ez
  go_enter Tryz.func88, Tryz.ntmps88
  go_wp2_with fail
  try go_quiet (fail)
  refine (K.out _).mono ?_
  rintro e w' ⟨rfl, rfl⟩
  go_wp2
  go_ret
  exact ⟨rfl, by first | exact gb_drewN _ _ _ | exact gb_refl _ _⟩


end Go.Proofs.YtnieeckdldpebaaGreat.Tg

/- Readings of one byte, by the steps that are left. -/
namespace Go.Proofs.YtnieeckdldpebaaGreat.Tk
open Go.ChangeShapes Go.WideShapes Go.ChangeAt Go.RowKit
open Go.Proofs.YtnieeckdldpebaaGreat.Le Go.Proofs.YtnieeckdldpebaaGreat.Sr
set_option linter.unusedVariables false

/-- n further steps are done. -/
def stp (x : St) (n : Nat) : St := { x with st := x.st + n }
/-- All steps are done, and one more was refused. -/
def spent (x : St) : St := { x with st := x.s, r := 3, a := 1 }
theorem stp_0 (x : St) : stp x 0 = x := by simp [stp]
theorem stp_stp (x : St) (a b : Nat) : stp (stp x a) b = stp x (a + b) := by simp [stp, Int.add_assoc]
theorem stp_spent (x : St) (n : Nat) : spent (stp x n) = spent x := rfl
theorem stp_s (x : St) (n : Nat) : (stp x n).s = x.s := rfl
theorem stp_st (x : St) (n : Nat) : (stp x n).st = x.st + n := rfl
theorem work_one {x : St} (hr : x.r = 0) (h : x.st + 1 ≤ x.s) : x.work 1 = (stp x 1, true) := by
  unfold St.work
  rw [if_neg (by simpa using hr), if_neg (by omega)]
  rfl
theorem work_none {x : St} (ok : x.Ok) (hr : x.r = 0) (h : x.s < x.st + 1) : x.work 1 = (spent x, false) := by
  have := ok.ts
  have e : x.st = x.s := by omega
  unfold St.work
  rw [if_neg (by simpa using hr), if_pos (by omega), St.refuse, if_pos hr]
  unfold spent
  rw [← e]

/-- A source of the ledger l over all of the text s, at p; the ledger's state is x. -/
structure Rd (c l : Nat) (s : ByteArray) (p : Nat) (x : St) (w : World) : Prop where
  so : So c l s p 0 s.size w
  led : Led l x.ls w
  ok : x.Ok
theorem Rd.grown {c l : Nat} {s : ByteArray} {p : Nat} {x : St} {w w' : World} (h : Rd c l s p x w) (g : w.grownBy w' none) : Rd c l s p x w' :=
  ⟨h.so.grown g (by simp), h.led.grown g (by simp), h.ok⟩

theorem Rd.st {c l : Nat} {s : ByteArray} {p : Nat} {x : St} {w : World} {k i : Nat} {v : Value} (h : Rd c l s p x w) (hc : c ≠ k) (hl : l ≠ k) : Rd c l s p x (w.setCell ⟨k, i, none⟩ v) :=
  ⟨⟨blk_other h.so.blk hc, h.so.bl, h.so.fp, h.so.pt, h.so.ts, h.so.big⟩, h.led.oth hl, h.ok⟩
theorem Rd.clt {c l : Nat} {s : ByteArray} {p : Nat} {x : St} {w : World} (h : Rd c l s p x w) : c < w.heap.size := h.so.lt
theorem Rd.llt {c l : Nat} {s : ByteArray} {p : Nat} {x : St} {w : World} (h : Rd c l s p x w) : l < w.heap.size := h.led.lt
/-- A block made since may be written. -/
theorem Tn.own1 {a b : World} {S : List Nat} {k i : Nat} {v : Value} (h : Tn a b S) (hk : a.heap.size ≤ k) : Tn a (b.setCell ⟨k, i, none⟩ v) S :=
  h.over (Tn.set b k i v (List.mem_singleton.2 rfl)) (fun x hx => .inl (by rw [List.mem_singleton] at hx; omega))

/-- Block r is a fault. -/
def Fl (r : Nat) (k f a : Int) (w : World) : Prop := w.heap[r]? = some (.cells #[.int .i64 k, .int .i64 f, .int .i64 a] 29 (0, 0))
theorem Fl.c0 {r : Nat} {k f a : Int} {w : World} (h : Fl r k f a w) : w.cell? ⟨r, 0, none⟩ = some (.int .i64 k) := blk_cell h 0
theorem Fl.c1 {r : Nat} {k f a : Int} {w : World} (h : Fl r k f a w) : w.cell? ⟨r, 1, none⟩ = some (.int .i64 f) := blk_cell h 1
theorem Fl.c2 {r : Nat} {k f a : Int} {w : World} (h : Fl r k f a w) : w.cell? ⟨r, 2, none⟩ = some (.int .i64 a) := blk_cell h 2
theorem Fl.free {r : Nat} {k f a : Int} {w : World} (h : Fl r k f a w) (o : Nat) : w.frozen? ⟨r, o, none⟩ = false := blk_free h o
theorem Fl.lt {r : Nat} {k f a : Int} {w : World} (h : Fl r k f a w) : r < w.heap.size := blk_lt h
theorem Fl.turned {r : Nat} {k f a : Int} {w w' : World} {S : List Nat} (h : Fl r k f a w) (t : Tn w w' S) (h1 : r ∉ S) : Fl r k f a w' := (t.block r h.lt h1).trans h
theorem Fl.set {r : Nat} {k f a : Int} {w : World} (h : Fl r k f a w) (k' f' a' : Int) : Fl r k' f' a' (((w.setCell ⟨r, 0, none⟩ (.int .i64 k')).setCell ⟨r, 1, none⟩ (.int .i64 f')).setCell ⟨r, 2, none⟩ (.int .i64 a')) :=
  blk_set (blk_set (blk_set h 0 (.int .i64 k')) 1 (.int .i64 f')) 2 (.int .i64 a')
theorem Fl.new (w : World) : Fl w.heap.size 0 0 0 (w.alloc (.cells #[.int .i64 0, .int .i64 0, .int .i64 0] 29)) := blk_at

theorem byte_numV (s : ByteArray) (p : Nat) (h : p < s.size) : Sr.numV false (s.extract p (p + 1)) = bt s p := by
  have hl : (s.extract p (p + 1)).data.toList = [s.data.toList.getD p 0] := by
    rw [Lib.extract_data]
    have h2 : p < s.data.toList.length := by rw [← Lib.size_eq]; exact h
    rw [show p + 1 - p = 1 from by omega]
    rw [List.getD_eq_getElem?_getD, List.getElem?_eq_getElem h2]
    rw [List.drop_eq_getElem_cons h2]
    rfl
  unfold Sr.numV
  rw [hl]
  simp [acc, ordd, bt]

theorem u8_byte (c l : Nat) (s : ByteArray) (p : Nat) (x : St) (w : World) (h : Rd c l s p x w) (hr : x.r = 0) (hk : x.st + 1 ≤ x.s) (hp : p < s.size) :
    Calls Tryz.prog 128 #[.pointer (some ⟨c, 0, none⟩)] w
      fun e w' => e = .returned (.tuple #[.int .i64 (bt s p), .bool true]) ∧ Rd c l s (p + 1) (stp x 1) w' ∧ Tn w w' [c, l] := by
  have hw := work_one hr hk
  have hn : rdB x p s.size 1 = true := by
    unfold rdB
    rw [hw]
    simp [canB]
    omega
  refine (u8_yes c l s p 0 s.size x w h.so h.led h.ok hn).mono fun e w' ⟨he, ⟨S, L⟩, t⟩ => ⟨?_, ⟨S, ?_, ?_⟩, t⟩
  · rw [he, byte_numV s p hp]
  · rw [hw] at L
    exact L
  · have := h.ok.work 1
    rw [hw] at this
    exact this

theorem u8_over (c l : Nat) (s : ByteArray) (p : Nat) (x : St) (w : World) (h : Rd c l s p x w) (hr : x.r = 0) (hk : x.st + 1 ≤ x.s) (hp : s.size ≤ p) :
    Calls Tryz.prog 128 #[.pointer (some ⟨c, 0, none⟩)] w
      fun e w' => e = .returned (.tuple #[.int .i64 0, .bool false]) ∧ Rd c l s p (stp x 1) w' ∧ Tn w w' [c, l] := by
  have hw := work_one hr hk
  have hn : rdB x p s.size 1 = false := by
    unfold rdB
    rw [hw]
    simp [canB]
    omega
  refine (u8_no c l s p 0 s.size x w h.so h.led h.ok hn).mono fun e w' ⟨he, ⟨S, L⟩, t⟩ => ⟨he, ⟨S, ?_, ?_⟩, Tn.gb t (by simp)⟩
  · rw [hw] at L
    exact L
  · have := h.ok.work 1
    rw [hw] at this
    exact this

theorem u8_spent (c l : Nat) (s : ByteArray) (p : Nat) (x : St) (w : World) (h : Rd c l s p x w) (hr : x.r = 0) (hk : x.s < x.st + 1) :
    Calls Tryz.prog 128 #[.pointer (some ⟨c, 0, none⟩)] w
      fun e w' => e = .returned (.tuple #[.int .i64 0, .bool false]) ∧ Rd c l s p (spent x) w' ∧ Tn w w' [c, l] := by
  have hw := work_none h.ok hr hk
  have hn : rdB x p s.size 1 = false := by
    unfold rdB
    rw [hw]
    rfl
  refine (u8_no c l s p 0 s.size x w h.so h.led h.ok hn).mono fun e w' ⟨he, ⟨S, L⟩, t⟩ => ⟨he, ⟨S, ?_, ?_⟩, Tn.gb t (by simp)⟩
  · rw [hw] at L
    exact L
  · have := h.ok.work 1
    rw [hw] at this
    exact this

end Go.Proofs.YtnieeckdldpebaaGreat.Tk

/- Layers 18, 19, pure: pixels behind a head, one behind the other, as places of the text; what ends them. -/
namespace Go.Proofs.YtnieeckdldpebaaGreat.Tr
open Go.ChangeShapes Go.WideShapes Go.ChangeAt Go.RowKit
open Go.Proofs.YtnieeckdldpebaaGreat.Le Go.Proofs.YtnieeckdldpebaaGreat.Tk Go.Proofs.YtnieeckdldpebaaGreat.Tg
set_option linter.unusedVariables false

/-- A reading of n steps that tells the fault f, at p (f 0: none), ends badly: with its fault, or Spent; the source is at q then, the ledger's state y. -/
def EB (s : ByteArray) (x : St) (f p n : Nat) (k a : Int) (q : Nat) (y : St) : Prop :=
  q ≤ s.size ∧ ((f ≠ 0 ∧ k = f ∧ a = p ∧ y = stp x n) ∨ (x.s < x.st + (n : Int) ∧ k = 4 ∧ a = q ∧ y = spent x))
theorem EB.kne {s : ByteArray} {x : St} {f p n : Nat} {k a : Int} {q : Nat} {y : St} (h : EB s x f p n k a q y) : k ≠ 0 := by
  obtain ⟨_, ⟨h1, h2, _⟩ | ⟨_, h2, _⟩⟩ := h
  · omega
  · omega
theorem EB.lift {s : ByteArray} {x : St} {f p n m f' p' n' : Nat} {k a : Int} {q : Nat} {y : St} (h : EB s (stp x m) f p n k a q y) (h1 : f ≠ 0 → f' = f ∧ p' = p ∧ n' = m + n) (h2 : m + n ≤ n') : EB s x f' p' n' k a q y := by
  obtain ⟨hq, ⟨g1, g2, g3, g4⟩ | ⟨g1, g2, g3, g4⟩⟩ := h
  · obtain ⟨e1, e2, e3⟩ := h1 g1
    refine ⟨hq, .inl ⟨by omega, by omega, by omega, ?_⟩⟩
    rw [g4, stp_stp, e3]
  · refine ⟨hq, .inr ⟨?_, g2, g3, by rw [g4, stp_spent]⟩⟩
    rw [stp_s, stp_st] at g1
    omega

/-- Pixels so far: a fault and its place; the source's place; the places of those that stand, the steps. -/
structure PZ where
  f : Nat
  p : Nat
  a : Nat
  l : List Nat
  n : Nat

section
variable (KD PL : Nat → Nat) (sz : Nat)
/-- The next pixel stands m times. -/
def pix (m : Nat) (z : PZ) : PZ :=
  if z.f ≠ 0 then z else if KD z.a = 0 then ⟨0, 0, z.a + sz, z.l ++ List.replicate m z.a, z.n + 1 + m⟩ else ⟨KD z.a, PL z.a, z.a, z.l, z.n + 1⟩
/-- So many pixels, each m times. -/
def pixs (m : Nat) (z : PZ) : Nat → PZ
  | 0 => z
  | i + 1 => pix KD PL sz m (pixs m z i)
/-- How many pixels follow a packet's first byte, and how many times each of them stands. -/
def flw (b : Nat) : Nat := if 128 ≤ b then 1 else b % 128 + 1
def tms (b : Nat) : Nat := if 128 ≤ b then b % 128 + 1 else 1
/-- A packet, of N pixels in all. -/
def pack (s : ByteArray) (N : Nat) (z : PZ) : PZ :=
  if z.f ≠ 0 ∨ N ≤ z.l.length then z
  else if s.size ≤ z.a then ⟨1, s.size, z.a, z.l, z.n + 1⟩
  else if N - z.l.length < bn s z.a % 128 + 1 then ⟨2, z.a, z.a + 1, z.l, z.n + 1⟩
  else pixs KD PL sz (tms (bn s z.a)) ⟨0, 0, z.a + 1, z.l, z.n + 1⟩ (flw (bn s z.a))
def packs (s : ByteArray) (N : Nat) (z : PZ) : Nat → PZ
  | 0 => z
  | i + 1 => pack KD PL sz s N (packs s N z i)
/-- All pixels behind a map. -/
def allZ (s : ByteArray) (pk : Bool) (N a : Nat) : PZ := if pk then packs KD PL sz s N ⟨0, 0, a, [], 0⟩ N else pixs KD PL sz 1 ⟨0, 0, a, [], 0⟩ N
end

theorem ft_mul (b : Nat) : flw b * tms b = b % 128 + 1 := by
  unfold flw tms
  split
  · omega
  · omega
theorem tms_one (b : Nat) : 1 ≤ tms b := by
  unfold tms
  split <;> omega

section
variable {KD PL : Nat → Nat} {sz : Nat}
theorem pix_stay {m : Nat} {z : PZ} (h : z.f ≠ 0) : pix KD PL sz m z = z := if_pos h
theorem pix_yes {m : Nat} {z : PZ} (h : z.f = 0) (k : KD z.a = 0) : pix KD PL sz m z = ⟨0, 0, z.a + sz, z.l ++ List.replicate m z.a, z.n + 1 + m⟩ := by
  unfold pix
  rw [if_neg (by omega), if_pos k]
theorem pix_no {m : Nat} {z : PZ} (h : z.f = 0) (k : KD z.a ≠ 0) : pix KD PL sz m z = ⟨KD z.a, PL z.a, z.a, z.l, z.n + 1⟩ := by
  unfold pix
  rw [if_neg (by omega), if_neg k]
theorem pixs_succ (m : Nat) (z : PZ) (i : Nat) : pixs KD PL sz m z (i + 1) = pix KD PL sz m (pixs KD PL sz m z i) := rfl
theorem pix_n (m : Nat) (z : PZ) : z.n ≤ (pix KD PL sz m z).n := by
  unfold pix
  split
  · exact Nat.le_refl _
  · split
    · show z.n ≤ z.n + 1 + m; omega
    · show z.n ≤ z.n + 1; omega
theorem pixs_n (m : Nat) (z : PZ) {i j : Nat} (h : i ≤ j) : (pixs KD PL sz m z i).n ≤ (pixs KD PL sz m z j).n := by
  induction j with
  | zero =>
    obtain rfl : i = 0 := by omega
    exact Nat.le_refl _
  | succ j ih =>
    by_cases e : i = j + 1
    · subst e; exact Nat.le_refl _
    · exact Nat.le_trans (ih (by omega)) (pix_n m _)
theorem pixs_stay (m : Nat) (z : PZ) {i j : Nat} (h : i ≤ j) (hf : (pixs KD PL sz m z i).f ≠ 0) : pixs KD PL sz m z j = pixs KD PL sz m z i := by
  induction j with
  | zero =>
    obtain rfl : i = 0 := by omega
    rfl
  | succ j ih =>
    by_cases e : i = j + 1
    · subst e; rfl
    · have e1 := ih (by omega)
      rw [pixs_succ, e1, pix_stay hf]
theorem pixs_back (m : Nat) (z : PZ) {i j : Nat} (h : i ≤ j) (hf : (pixs KD PL sz m z j).f = 0) : (pixs KD PL sz m z i).f = 0 := by
  by_cases h1 : (pixs KD PL sz m z i).f = 0
  · exact h1
  · rw [pixs_stay m z h h1] at hf
    exact absurd hf h1
theorem pix_kd {m : Nat} {z : PZ} (h : (pix KD PL sz m z).f = 0) : z.f = 0 ∧ KD z.a = 0 := by
  by_cases h0 : z.f = 0
  · refine ⟨h0, ?_⟩
    by_cases hk : KD z.a = 0
    · exact hk
    · rw [pix_no h0 hk] at h
      exact absurd h hk
  · rw [pix_stay h0] at h
    exact absurd h h0
theorem pixs_len (m : Nat) (z : PZ) : ∀ i, (pixs KD PL sz m z i).f = 0 → (pixs KD PL sz m z i).l.length = z.l.length + i * m
  | 0, _ => by show z.l.length = _; omega
  | i + 1, h => by
    have h0 := pixs_back m z (Nat.le_succ i) h
    rw [pixs_succ] at h ⊢
    have hk := (pix_kd h).2
    rw [pix_yes h0 hk]
    show (List.length (_ ++ _)) = _
    rw [List.length_append, List.length_replicate, pixs_len m z i h0, Nat.succ_mul]
    omega
/-- All of the packet's pixels are read at once. -/
theorem pack_stay {s : ByteArray} {N : Nat} {z : PZ} (h : z.f ≠ 0 ∨ N ≤ z.l.length) : pack KD PL sz s N z = z := if_pos h
theorem pack_end {s : ByteArray} {N : Nat} {z : PZ} (h : z.f = 0) (h1 : z.l.length < N) (h2 : s.size ≤ z.a) : pack KD PL sz s N z = ⟨1, s.size, z.a, z.l, z.n + 1⟩ := by
  unfold pack
  rw [if_neg (by omega), if_pos h2]
theorem pack_many {s : ByteArray} {N : Nat} {z : PZ} (h : z.f = 0) (h1 : z.l.length < N) (h2 : z.a < s.size) (h3 : N - z.l.length < bn s z.a % 128 + 1) : pack KD PL sz s N z = ⟨2, z.a, z.a + 1, z.l, z.n + 1⟩ := by
  unfold pack
  rw [if_neg (by omega), if_neg (by omega), if_pos h3]
theorem pack_go {s : ByteArray} {N : Nat} {z : PZ} (h : z.f = 0) (h1 : z.l.length < N) (h2 : z.a < s.size) (h3 : ¬ N - z.l.length < bn s z.a % 128 + 1) :
    pack KD PL sz s N z = pixs KD PL sz (tms (bn s z.a)) ⟨0, 0, z.a + 1, z.l, z.n + 1⟩ (flw (bn s z.a)) := by
  unfold pack
  rw [if_neg (by omega), if_neg (by omega), if_neg h3]
theorem packs_succ (s : ByteArray) (N : Nat) (z : PZ) (i : Nat) : packs KD PL sz s N z (i + 1) = pack KD PL sz s N (packs KD PL sz s N z i) := rfl
theorem pack_n (s : ByteArray) (N : Nat) (z : PZ) : z.n ≤ (pack KD PL sz s N z).n := by
  unfold pack
  split
  · exact Nat.le_refl _
  · split
    · show z.n ≤ z.n + 1; omega
    · split
      · show z.n ≤ z.n + 1; omega
      · have h := pixs_n (KD := KD) (PL := PL) (sz := sz) (tms (bn s z.a)) ⟨0, 0, z.a + 1, z.l, z.n + 1⟩ (Nat.zero_le (flw (bn s z.a)))
        have h1 : z.n + 1 ≤ _ := h
        omega
theorem packs_n (s : ByteArray) (N : Nat) (z : PZ) {i j : Nat} (h : i ≤ j) : (packs KD PL sz s N z i).n ≤ (packs KD PL sz s N z j).n := by
  induction j with
  | zero =>
    obtain rfl : i = 0 := by omega
    exact Nat.le_refl _
  | succ j ih =>
    by_cases e : i = j + 1
    · subst e; exact Nat.le_refl _
    · exact Nat.le_trans (ih (by omega)) (pack_n s N _)
theorem packs_stay (s : ByteArray) (N : Nat) (z : PZ) {i j : Nat} (h : i ≤ j) (hf : (packs KD PL sz s N z i).f ≠ 0 ∨ N ≤ (packs KD PL sz s N z i).l.length) : packs KD PL sz s N z j = packs KD PL sz s N z i := by
  induction j with
  | zero =>
    obtain rfl : i = 0 := by omega
    rfl
  | succ j ih =>
    by_cases e : i = j + 1
    · subst e; rfl
    · have e1 := ih (by omega)
      rw [packs_succ, e1, pack_stay hf]
theorem packs_back (s : ByteArray) (N : Nat) (z : PZ) {i j : Nat} (h : i ≤ j) (hf : (packs KD PL sz s N z j).f = 0) : (packs KD PL sz s N z i).f = 0 := by
  by_cases h1 : (packs KD PL sz s N z i).f = 0
  · exact h1
  · rw [packs_stay s N z h (.inl h1)] at hf
    exact absurd hf h1
/-- A packet without fault, of pixels that lack. -/
theorem pack_ok {s : ByteArray} {N : Nat} {z : PZ} (h : (pack KD PL sz s N z).f = 0) (h0 : z.f = 0) (h1 : z.l.length < N) :
    z.a < s.size ∧ ¬ N - z.l.length < bn s z.a % 128 + 1 := by
  by_cases h2 : s.size ≤ z.a
  · rw [pack_end h0 h1 h2] at h
    exact absurd h (show ¬ ((1 : Nat) = 0) by decide)
  · refine ⟨by omega, fun h3 => ?_⟩
    rw [pack_many h0 h1 (by omega) h3] at h
    exact absurd h (show ¬ ((2 : Nat) = 0) by decide)
theorem pack_len {s : ByteArray} {N : Nat} {z : PZ} (h : (pack KD PL sz s N z).f = 0) (h0 : z.f = 0) (h1 : z.l.length < N) :
    (pack KD PL sz s N z).l.length = z.l.length + (bn s z.a % 128 + 1) := by
  obtain ⟨h2, h3⟩ := pack_ok h h0 h1
  rw [pack_go h0 h1 h2 h3] at h ⊢
  rw [pixs_len _ _ _ h, ft_mul]
theorem packs_len (s : ByteArray) (N : Nat) (z : PZ) (hz : z.l.length = 0) : ∀ i, i ≤ N → (packs KD PL sz s N z i).f = 0 → i ≤ (packs KD PL sz s N z i).l.length ∧ (packs KD PL sz s N z i).l.length ≤ N
  | 0, _, _ => ⟨Nat.zero_le _, by show z.l.length ≤ N; omega⟩
  | i + 1, hi, h => by
    have h0 := packs_back s N z (Nat.le_succ i) h
    obtain ⟨g1, g2⟩ := packs_len s N z hz i (by omega) h0
    rw [packs_succ] at h ⊢
    by_cases hn : N ≤ (packs KD PL sz s N z i).l.length
    · rw [pack_stay (.inr hn)]
      exact ⟨by omega, g2⟩
    · have h3 := (pack_ok h h0 (by omega)).2
      rw [pack_len h h0 (by omega)]
      omega
/-- Where packets end, all is told. -/
theorem packs_all (s : ByteArray) (N : Nat) (z : PZ) (hz : z.l.length = 0) {i : Nat} (h : (packs KD PL sz s N z i).f ≠ 0 ∨ N ≤ (packs KD PL sz s N z i).l.length) : packs KD PL sz s N z N = packs KD PL sz s N z i := by
  rcases Nat.le_total i N with hi | hi
  · exact packs_stay s N z hi h
  · symm
    refine packs_stay s N z hi ?_
    by_cases hf : (packs KD PL sz s N z N).f = 0
    · exact .inr (packs_len s N z hz N (Nat.le_refl _) hf).1
    · exact .inl hf

/-- What holds of pixels: kinds, places. -/
structure KB (s : ByteArray) (KD PL : Nat → Nat) (sz : Nat) : Prop where
  k2 : ∀ o, KD o ≤ 2
  fit : ∀ o, o ≤ s.size → KD o = 0 → o + sz ≤ s.size
  ple : ∀ o, o ≤ s.size → PL o ≤ s.size
/-- Of pixels, one behind the other. -/
theorem pixs_gd {s : ByteArray} (B : KB s KD PL sz) (m : Nat) (hm : 1 ≤ m) (z : PZ) (hz : z.f = 0) (ha : z.a ≤ s.size) (hp : z.p ≤ s.size) : ∀ i,
    ((pixs KD PL sz m z i).f = 0 → (pixs KD PL sz m z i).a ≤ s.size) ∧ (pixs KD PL sz m z i).f ≤ 2 ∧ (pixs KD PL sz m z i).p ≤ s.size ∧ z.l.length ≤ (pixs KD PL sz m z i).l.length ∧ (pixs KD PL sz m z i).l.length ≤ z.l.length + i * m ∧
    (pixs KD PL sz m z i).n + 2 * z.l.length ≤ z.n + 2 * (pixs KD PL sz m z i).l.length + (if (pixs KD PL sz m z i).f = 0 then 0 else 1)
  | 0 => ⟨fun _ => ha, by show z.f ≤ 2; omega, hp, Nat.le_refl _, by show z.l.length ≤ _; omega, by show z.n + _ ≤ z.n + 2 * z.l.length + _; omega⟩
  | i + 1 => by
    obtain ⟨g1, g2, g3, g4, g5, g6⟩ := pixs_gd B m hm z hz ha hp i
    rw [pixs_succ, Nat.succ_mul]
    generalize pixs KD PL sz m z i = y at g1 g2 g3 g4 g5 g6 ⊢
    by_cases h0 : y.f = 0
    · rw [if_pos h0] at g6
      by_cases hk : KD y.a = 0
      · rw [pix_yes h0 hk]
        refine ⟨fun _ => B.fit _ (g1 h0) hk, by show 0 ≤ 2; omega, by show 0 ≤ _; omega, ?_, ?_, ?_⟩
        · show _ ≤ List.length (_ ++ _)
          rw [List.length_append]; omega
        · show List.length (_ ++ _) ≤ _
          rw [List.length_append, List.length_replicate]; omega
        · show y.n + 1 + m + _ ≤ z.n + 2 * List.length (_ ++ _) + _
          rw [List.length_append, List.length_replicate]; omega
      · rw [pix_no h0 hk]
        refine ⟨fun h => absurd h hk, B.k2 _, B.ple _ (g1 h0), g4, by show y.l.length ≤ _; omega, ?_⟩
        show y.n + 1 + _ ≤ z.n + 2 * y.l.length + (if KD y.a = 0 then 0 else 1)
        rw [if_neg hk]; omega
    · rw [pix_stay h0]
      exact ⟨g1, g2, g3, g4, by omega, g6⟩
/-- What holds of pixels so far. -/
structure ZG (s : ByteArray) (N : Nat) (z : PZ) : Prop where
  a : z.f = 0 → z.a ≤ s.size
  f : z.f ≤ 2
  p : z.p ≤ s.size
  len : z.l.length ≤ N
  n : z.n ≤ 3 * z.l.length + (if z.f = 0 then 0 else 2)
theorem packs_gd {s : ByteArray} (B : KB s KD PL sz) (N : Nat) (z : PZ) (hz : z.f = 0) (ha : z.a ≤ s.size) (hp : z.p ≤ s.size) (hl : z.l.length = 0) (hn : z.n = 0) : ∀ i, ZG s N (packs KD PL sz s N z i)
  | 0 => ⟨fun _ => ha, by show z.f ≤ 2; omega, hp, by show z.l.length ≤ _; omega, by show z.n ≤ _; omega⟩
  | i + 1 => by
    have G := packs_gd B N z hz ha hp hl hn i
    rw [packs_succ]
    generalize packs KD PL sz s N z i = y at G ⊢
    by_cases hs : y.f ≠ 0 ∨ N ≤ y.l.length
    · rw [pack_stay hs]
      exact G
    · have h0 : y.f = 0 := by omega
      have h1 : y.l.length < N := by omega
      have gn := G.n
      rw [if_pos h0] at gn
      by_cases h2 : s.size ≤ y.a
      · rw [pack_end h0 h1 h2]
        exact ⟨fun h => absurd h (show ¬ ((1 : Nat) = 0) by decide), by show 1 ≤ 2; omega, Nat.le_refl _, G.len, by show y.n + 1 ≤ 3 * y.l.length + 2; omega⟩
      · by_cases h3 : N - y.l.length < bn s y.a % 128 + 1
        · rw [pack_many h0 h1 (by omega) h3]
          exact ⟨fun h => absurd h (show ¬ ((2 : Nat) = 0) by decide), by show 2 ≤ 2; omega, G.a h0, G.len, by show y.n + 1 ≤ 3 * y.l.length + 2; omega⟩
        · rw [pack_go h0 h1 (by omega) h3]
          have hft := ft_mul (bn s y.a)
          have hP := pixs_gd B (tms (bn s y.a)) (tms_one _) ⟨0, 0, y.a + 1, y.l, y.n + 1⟩ rfl (by show y.a + 1 ≤ _; omega) (Nat.zero_le _) (flw (bn s y.a))
          have hL := pixs_len (KD := KD) (PL := PL) (sz := sz) (tms (bn s y.a)) ⟨0, 0, y.a + 1, y.l, y.n + 1⟩ (flw (bn s y.a))
          rw [hft] at hP hL
          generalize pixs KD PL sz (tms (bn s y.a)) ⟨0, 0, y.a + 1, y.l, y.n + 1⟩ (flw (bn s y.a)) = v at hP hL ⊢
          obtain ⟨g1, g2, g3, g4, g5, g6⟩ := hP
          have g4 : y.l.length ≤ v.l.length := g4
          have g5 : v.l.length ≤ y.l.length + _ := g5
          have g6 : v.n + 2 * y.l.length ≤ y.n + 1 + 2 * v.l.length + _ := g6
          refine ⟨g1, g2, g3, by omega, ?_⟩
          by_cases hv : v.f = 0
          · have hL' : v.l.length = y.l.length + _ := hL hv
            rw [if_pos hv] at g6 ⊢
            omega
          · rw [if_neg hv] at g6 ⊢
            omega
theorem allZ_gd {s : ByteArray} (B : KB s KD PL sz) (pk : Bool) (N a : Nat) (ha : a ≤ s.size) : ZG s N (allZ KD PL sz s pk N a) := by
  unfold allZ
  cases pk
  · obtain ⟨g1, g2, g3, g4, g5, g6⟩ := pixs_gd B 1 (Nat.le_refl _) ⟨0, 0, a, [], 0⟩ rfl ha (Nat.zero_le _) N
    have g6 : _ + 2 * 0 ≤ 0 + _ + _ := g6
    have g5 : _ ≤ 0 + N * 1 := g5
    refine ⟨g1, g2, g3, by show (pixs _ _ _ _ _ _).l.length ≤ _; omega, ?_⟩
    show (pixs _ _ _ _ _ _).n ≤ _
    split at g6
    · rename_i h
      rw [if_neg (by decide : ¬ (false = true)), if_pos h]; omega
    · rename_i h
      rw [if_neg (by decide : ¬ (false = true)), if_neg h]; omega
  · exact packs_gd B N ⟨0, 0, a, [], 0⟩ rfl ha (Nat.zero_le _) rfl rfl N
end

end Go.Proofs.YtnieeckdldpebaaGreat.Tr
