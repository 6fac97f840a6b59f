/- Texts of one kind, one behind the other: Src4, Src5, Tok7, Tok8, Tok9, TokA, TokB, SrcA, TokC, Pnh2, Bit1, Bit2, Bit3, Bit4, Br1. -/
import Derived.BigQuiet
import Derived.Deep.LoopGhost
import Derived.Deep.QuietTactic
import Derived.Deep.RegionWith
import Derived.Laws.BitsAllLaws
import Derived.Lib.BufferWrite
import Derived.Lib.RabinKarpLaws
import Derived.Test.YtcfdippcobkbaaaGreatG07
import Derived.Test.YtcfdippcobkbaaaGreatG27
/- Package src: numbers are put together of bytes. -/
namespace Go.Proofs.YtcfdippcobkbaaaGreat.Sr
open Go.ChangeShapes Go.WideShapes Go.ChangeAt Go.RowKit
open Go.Proofs.YtcfdippcobkbaaaGreat.Le
set_option linter.unusedVariables false

/-- The number of some bytes, the highest first. -/
def acc (z : List UInt8) : Nat := z.foldl (fun v c => 256 * v + c.toNat) 0
/-- Bytes in the order in which they weigh, the highest first. -/
def ordd (o : Bool) (z : List UInt8) : List UInt8 := if o then z else z.reverse
theorem acc_snoc (z : List UInt8) (c : UInt8) : acc (z ++ [c]) = 256 * acc z + c.toNat := by simp [acc, List.foldl_append]
theorem acc_lt' (z : List UInt8) : acc z.reverse < 256 ^ z.length := by
  induction z with
  | nil => simp [acc]
  | cons c z ih =>
    rw [List.reverse_cons, acc_snoc, List.length_cons, Nat.pow_succ]
    have := c.toNat_lt
    omega
theorem acc_lt (z : List UInt8) : acc z < 256 ^ z.length := by
  have h := acc_lt' z.reverse
  rwa [List.reverse_reverse, List.length_reverse] at h
theorem ordd_len (o : Bool) (z : List UInt8) : (ordd o z).length = z.length := by unfold ordd; split <;> simp
/-- The number of bytes, in an order. -/
def numV (o : Bool) (z : ByteArray) : Nat := acc (ordd o z.data.toList)
/-- Which byte is taken in round k. -/
def nxt (o : Bool) (n k : Nat) : Nat := if o then k else n - 1 - k
theorem nxt_lt (o : Bool) {n k : Nat} (h : k < n) : nxt o n k < n := by unfold nxt; split <;> omega
theorem ordd_at (o : Bool) (z : List UInt8) (k : Nat) (h : k < z.length) : (ordd o z)[k]'(by rw [ordd_len]; exact h) = z[nxt o z.length k]'(nxt_lt o h) := by
  cases o with
  | true => rfl
  | false => simp [ordd, nxt, List.getElem_reverse]
theorem acc_step (o : Bool) (z : List UInt8) (k : Nat) (h : k < z.length) : acc ((ordd o z).take (k + 1)) = 256 * acc ((ordd o z).take k) + (z[nxt o z.length k]'(nxt_lt o h)).toNat := by
  rw [← ordd_at o z k h, List.take_succ_eq_append_getElem (by rw [ordd_len]; exact h), acc_snoc]

theorem wraps_u32 (n : Int) (h₀ : 0 ≤ n) (h₁ : n < 2 ^ 32) : IntKind.u32.wrap n = n := by rw [IntKind.wrap_u32]; omega
/-- A number moved on by a byte. -/
theorem or32 (v c : Nat) (hv : v < 16777216) (hc : c < 256) : bits .or .u32 ((v : Int) * 256 % 4294967296) (c : Int) = ((256 * v + c : Nat) : Int) := by
  rw [show (v : Int) * 256 % 4294967296 = v * 256 from by omega]
  have h := bits_join .u32 32 (by decide) wraps_u32 8 ((v : Int) * 256) (c : Int) (by omega) (by omega) (by omega) (by omega) (by omega) (by omega)
  omega

theorem acc_lt4 (z : List UInt8) (h : z.length ≤ 4) : acc z < 4294967296 :=
  Nat.lt_of_lt_of_le (acc_lt z) (Nat.le_trans (Nat.pow_le_pow_right (by decide) h) (by decide))

set_option maxRecDepth 100000 in
set_option maxHeartbeats 2000000 in
theorem read16_go (b l : Nat) (z : ByteArray) (n : Nat) (o : Bool) (w : World) (K : World → Prop) (hz : z.size = n) (hn : n ≤ 2)
    (hT : Calls Tryz.prog 134 #[.pointer (some ⟨b, 0, none⟩), .int .i64 n] w fun e w' => e = .returned (.tuple #[.string z, .bool true]) ∧ K w') :
    Calls Tryz.prog 157 #[.pointer (some ⟨b, 0, none⟩), .int .i64 n, .bool o] w
      fun e w' => e = .returned (.tuple #[.int .i64 (numV o z), .bool true]) ∧ K w' := by
  have hK := Lib.hid hT
  clear hT
  go_enter Tryz.func157, Tryz.ntmps157
  go_wp2_with fail
  refine hK.out.mono ?_
  rintro e w1 ⟨rfl, hw⟩
  have HW := Lib.hid hw
  clear hw
  go_wp2_with fail
  go_loopg [10, 22] n (fun q vv iv wr => ∃ k : Nat, k ≤ n ∧ q = n - k ∧ vv = .int .u32 (acc ((ordd o z.data.toList).take k)) ∧ iv = .int .i64 k ∧ w1 = wr)
  case atStart => exact ⟨0, by omega, rfl, rfl, rfl, rfl⟩
  case round =>
    obtain ⟨k, hk, rfl, rfl, rfl, rfl⟩ := hrel
    have hl := Lib.size_eq z
    by_cases hlt : k < n
    · have st := acc_step o z.data.toList k (by omega)
      have lt := Nat.lt_of_lt_of_le (acc_lt ((ordd o z.data.toList).take k)) (Nat.pow_le_pow_right (by decide) (show _ ≤ 3 from by rw [List.length_take]; omega))
      obtain ⟨v, hv⟩ : ∃ v, acc ((ordd o z.data.toList).take k) = v := ⟨_, rfl⟩
      rw [hv] at st lt ⊢
      have ST := Lib.hid st
      have LT := Lib.hid lt
      clear st lt hv
      cases o with
      | true =>
        have hi : nxt true z.data.toList.length k = k := rfl
        have st' := ST.out
        simp only [hi] at st'
        rw [byte_at' z k (by omega) (by omega)] at st'
        have b255 := (z[k]'(by omega)).toNat_lt
        obtain ⟨c, hcz⟩ : ∃ c, (z[k]'(by omega)).toNat = c := ⟨_, rfl⟩
        rw [hcz] at st' b255
        have OR := or32 v c (by have := LT.out; omega) b255
        have SS := Lib.hid st'
        clear st'
        go_wp2
        go_roundg (n - (k + 1))
        case measure => omega
        case rel => exact ⟨k + 1, by omega, rfl, by rw [SS.out]; go_num, by go_num, rfl⟩
      | false =>
        have hi : nxt false z.data.toList.length k = n - 1 - k := by unfold nxt; rw [if_neg (by decide)]; omega
        have st' := ST.out
        simp only [hi] at st'
        rw [byte_at' z (n - 1 - k) (by omega) (by omega)] at st'
        have b255 := (z[n - 1 - k]'(by omega)).toNat_lt
        obtain ⟨c, hcz⟩ : ∃ c, (z[n - 1 - k]'(by omega)).toNat = c := ⟨_, rfl⟩
        rw [hcz] at st' b255
        have OR := or32 v c (by have := LT.out; omega) b255
        have SS := Lib.hid st'
        clear st'
        go_wp2
        go_roundg (n - (k + 1))
        case measure => omega
        case rel => exact ⟨k + 1, by omega, rfl, by rw [SS.out]; go_num, by go_num, rfl⟩
    · have hkn : k = n := by omega
      subst hkn
      have e1 : (ordd o z.data.toList).take k = ordd o z.data.toList := List.take_of_length_le (by rw [ordd_len, ← hl, hz]; exact Nat.le_refl _)
      rw [e1]
      have lt : acc (ordd o z.data.toList) < 65536 := Nat.lt_of_lt_of_le (acc_lt _) (Nat.pow_le_pow_right (by decide) (show _ ≤ 2 from by rw [ordd_len]; omega))
      have e2 : wrap64 (acc (ordd o z.data.toList) : Int) = acc (ordd o z.data.toList) := IntWalk.wrap64_in _ (by omega)
      go_wp2
      go_ret2
      exact ⟨rfl, HW.out⟩

set_option maxRecDepth 100000 in
set_option maxHeartbeats 2000000 in
theorem read8_go (b l : Nat) (z : ByteArray) (n : Nat) (o : Bool) (w : World) (K : World → Prop) (hz : z.size = n) (hn : n ≤ 1)
    (hT : Calls Tryz.prog 134 #[.pointer (some ⟨b, 0, none⟩), .int .i64 n] w fun e w' => e = .returned (.tuple #[.string z, .bool true]) ∧ K w') :
    Calls Tryz.prog 109 #[.pointer (some ⟨b, 0, none⟩), .int .i64 n, .bool o] w
      fun e w' => e = .returned (.tuple #[.int .i64 (numV o z), .bool true]) ∧ K w' := by
  have hK := Lib.hid hT
  clear hT
  go_enter Tryz.func109, Tryz.ntmps109
  go_wp2_with fail
  refine hK.out.mono ?_
  rintro e w1 ⟨rfl, hw⟩
  have HW := Lib.hid hw
  clear hw
  go_wp2_with fail
  go_loopg [10, 22] n (fun q vv iv wr => ∃ k : Nat, k ≤ n ∧ q = n - k ∧ vv = .int .u32 (acc ((ordd o z.data.toList).take k)) ∧ iv = .int .i64 k ∧ w1 = wr)
  case atStart => exact ⟨0, by omega, rfl, rfl, rfl, rfl⟩
  case round =>
    obtain ⟨k, hk, rfl, rfl, rfl, rfl⟩ := hrel
    have hl := Lib.size_eq z
    by_cases hlt : k < n
    · have st := acc_step o z.data.toList k (by omega)
      have lt := Nat.lt_of_lt_of_le (acc_lt ((ordd o z.data.toList).take k)) (Nat.pow_le_pow_right (by decide) (show _ ≤ 3 from by rw [List.length_take]; omega))
      obtain ⟨v, hv⟩ : ∃ v, acc ((ordd o z.data.toList).take k) = v := ⟨_, rfl⟩
      rw [hv] at st lt ⊢
      have ST := Lib.hid st
      have LT := Lib.hid lt
      clear st lt hv
      cases o with
      | true =>
        have hi : nxt true z.data.toList.length k = k := rfl
        have st' := ST.out
        simp only [hi] at st'
        rw [byte_at' z k (by omega) (by omega)] at st'
        have b255 := (z[k]'(by omega)).toNat_lt
        obtain ⟨c, hcz⟩ : ∃ c, (z[k]'(by omega)).toNat = c := ⟨_, rfl⟩
        rw [hcz] at st' b255
        have OR := or32 v c (by have := LT.out; omega) b255
        have SS := Lib.hid st'
        clear st'
        go_wp2
        go_roundg (n - (k + 1))
        case measure => omega
        case rel => exact ⟨k + 1, by omega, rfl, by rw [SS.out]; go_num, by go_num, rfl⟩
      | false =>
        have hi : nxt false z.data.toList.length k = 0 := by unfold nxt; rw [if_neg (by decide)]; omega
        have st' := ST.out
        simp only [hi] at st'
        rw [byte_at' z 0 (by omega) (by omega)] at st'
        have b255 := (z[0]'(by omega)).toNat_lt
        obtain ⟨c, hcz⟩ : ∃ c, (z[0]'(by omega)).toNat = c := ⟨_, rfl⟩
        rw [hcz] at st' b255
        have OR := or32 v c (by have := LT.out; omega) b255
        have SS := Lib.hid st'
        clear st'
        go_wp2
        go_roundg (n - (k + 1))
        case measure => omega
        case rel => exact ⟨k + 1, by omega, rfl, by rw [SS.out]; go_num, by go_num, rfl⟩
    · have hkn : k = n := by omega
      subst hkn
      have e1 : (ordd o z.data.toList).take k = ordd o z.data.toList := List.take_of_length_le (by rw [ordd_len, ← hl, hz]; exact Nat.le_refl _)
      rw [e1]
      have lt : acc (ordd o z.data.toList) < 256 := Nat.lt_of_lt_of_le (acc_lt _) (Nat.pow_le_pow_right (by decide) (show _ ≤ 1 from by rw [ordd_len]; omega))
      have e2 : wrap64 (acc (ordd o z.data.toList) : Int) = acc (ordd o z.data.toList) := IntWalk.wrap64_in _ (by omega)
      go_wp2
      go_ret2
      exact ⟨rfl, HW.out⟩

/-- A number of four bytes with a sign. -/
def sgn (v : Nat) : Int := if 2147483648 ≤ v then (v : Int) - 4294967296 else v
theorem sgn_is (v : Nat) (h : v < 4294967296) : wrap32 (v : Int) = sgn v := by
  unfold sgn wrap32
  split <;> omega
theorem sgn_in (v : Nat) (h : v < 4294967296) : -9223372036854775808 ≤ sgn v ∧ sgn v ≤ 9223372036854775807 := by
  unfold sgn
  split <;> omega

end Go.Proofs.YtcfdippcobkbaaaGreat.Sr

/- Package src: the six numbers. -/
namespace Go.Proofs.YtcfdippcobkbaaaGreat.Sr
open Go.ChangeShapes Go.WideShapes Go.ChangeAt Go.RowKit
open Go.Proofs.YtcfdippcobkbaaaGreat.Le
set_option linter.unusedVariables false

theorem part_size (s : ByteArray) (p n : Nat) (h : p + n ≤ s.size) : (s.extract p (p + n)).size = n := by
  rw [ByteArray.size_extract]
  omega

theorem read8_no (b : Nat) (n : Int) (o : Bool) (w : World) (K : World → Prop)
    (hT : Calls Tryz.prog 134 #[.pointer (some ⟨b, 0, none⟩), .int .i64 n] w fun e w' => e = .returned (.tuple #[.string ⟨#[]⟩, .bool false]) ∧ K w') :
    Calls Tryz.prog 109 #[.pointer (some ⟨b, 0, none⟩), .int .i64 n, .bool o] w
      fun e w' => e = .returned (.tuple #[.int .i64 0, .bool false]) ∧ K w' := by
  have hK := Lib.hid hT
  clear hT
  go_enter Tryz.func109, Tryz.ntmps109
  go_wp2_with fail
  refine hK.out.mono ?_
  rintro e w1 ⟨rfl, hw⟩
  have HW := Lib.hid hw
  clear hw
  go_wp2
  go_ret2
  exact ⟨rfl, HW.out⟩

theorem read16_no (b : Nat) (n : Int) (o : Bool) (w : World) (K : World → Prop)
    (hT : Calls Tryz.prog 134 #[.pointer (some ⟨b, 0, none⟩), .int .i64 n] w fun e w' => e = .returned (.tuple #[.string ⟨#[]⟩, .bool false]) ∧ K w') :
    Calls Tryz.prog 157 #[.pointer (some ⟨b, 0, none⟩), .int .i64 n, .bool o] w
      fun e w' => e = .returned (.tuple #[.int .i64 0, .bool false]) ∧ K w' := by
  have hK := Lib.hid hT
  clear hT
  go_enter Tryz.func157, Tryz.ntmps157
  go_wp2_with fail
  refine hK.out.mono ?_
  rintro e w1 ⟨rfl, hw⟩
  have HW := Lib.hid hw
  clear hw
  go_wp2
  go_ret2
  exact ⟨rfl, HW.out⟩

set_option maxRecDepth 100000 in
theorem u8_yes (b l : Nat) (s : ByteArray) (p f t : Nat) (x : St) (w : World) (h : So b l s p f t w) (hl : Led l x.ls w) (ok : x.Ok) (hn : rdB x p t 1 = true) :
    Calls Tryz.prog 81 #[.pointer (some ⟨b, 0, none⟩)] w
      fun e w' => e = .returned (.tuple #[.int .i64 (numV false (s.extract p (p + 1))), .bool true]) ∧ (So b l s (p + 1) f t w' ∧ Led l (x.work 1).1.ls w') ∧ Tn w w' [b, l] := by
  have hz := rd_of hn
  have h2 := h.ts
  have hT := (read8_go b l (s.extract p (p + 1)) 1 false w _ (part_size s p 1 (by omega)) (by decide) (take_yes b l s p f t 1 x w h hl ok hn))
  obtain ⟨V, hV⟩ : ∃ V : Int, ((numV false (s.extract p (p + 1))) : Int) = V := ⟨_, rfl⟩
  rw [hV] at hT ⊢
  have hK := Lib.hid hT
  clear h hl ok hn hz hV hT
  go_enter Tryz.func81, Tryz.ntmps81
  go_wp2_with fail
  refine hK.out.mono ?_
  rintro e w1 ⟨rfl, hw⟩
  have HW := Lib.hid hw
  clear hw
  go_wp2
  go_ret2
  exact ⟨rfl, HW.out⟩

set_option maxRecDepth 100000 in
theorem u8_no (b l : Nat) (s : ByteArray) (p f t : Nat) (x : St) (w : World) (h : So b l s p f t w) (hl : Led l x.ls w) (ok : x.Ok) (hn : rdB x p t 1 = false) :
    Calls Tryz.prog 81 #[.pointer (some ⟨b, 0, none⟩)] w
      fun e w' => e = .returned (.tuple #[.int .i64 0, .bool false]) ∧ (So b l s p f t w' ∧ Led l (x.work 1).1.ls w') ∧ w.grownBy w' (some l) := by
  have hK := Lib.hid (read8_no b 1 false w _ (take_no b l s p f t x 1 w h hl ok hn))
  clear h hl ok hn
  go_enter Tryz.func81, Tryz.ntmps81
  go_wp2_with fail
  refine hK.out.mono ?_
  rintro e w1 ⟨rfl, hw⟩
  have HW := Lib.hid hw
  clear hw
  go_wp2
  go_ret2
  exact ⟨rfl, HW.out⟩

set_option maxRecDepth 100000 in
theorem be16_yes (b l : Nat) (s : ByteArray) (p f t : Nat) (x : St) (w : World) (h : So b l s p f t w) (hl : Led l x.ls w) (ok : x.Ok) (hn : rdB x p t 2 = true) :
    Calls Tryz.prog 152 #[.pointer (some ⟨b, 0, none⟩)] w
      fun e w' => e = .returned (.tuple #[.int .i64 (numV true (s.extract p (p + 2))), .bool true]) ∧ (So b l s (p + 2) f t w' ∧ Led l (x.work 1).1.ls w') ∧ Tn w w' [b, l] := by
  have hz := rd_of hn
  have h2 := h.ts
  have hT := (read16_go b l (s.extract p (p + 2)) 2 true w _ (part_size s p 2 (by omega)) (by decide) (take_yes b l s p f t 2 x w h hl ok hn))
  obtain ⟨V, hV⟩ : ∃ V : Int, ((numV true (s.extract p (p + 2))) : Int) = V := ⟨_, rfl⟩
  rw [hV] at hT ⊢
  have hK := Lib.hid hT
  clear h hl ok hn hz hV hT
  go_enter Tryz.func152, Tryz.ntmps152
  go_wp2_with fail
  refine hK.out.mono ?_
  rintro e w1 ⟨rfl, hw⟩
  have HW := Lib.hid hw
  clear hw
  go_wp2
  go_ret2
  exact ⟨rfl, HW.out⟩

set_option maxRecDepth 100000 in
theorem be16_no (b l : Nat) (s : ByteArray) (p f t : Nat) (x : St) (w : World) (h : So b l s p f t w) (hl : Led l x.ls w) (ok : x.Ok) (hn : rdB x p t 2 = false) :
    Calls Tryz.prog 152 #[.pointer (some ⟨b, 0, none⟩)] w
      fun e w' => e = .returned (.tuple #[.int .i64 0, .bool false]) ∧ (So b l s p f t w' ∧ Led l (x.work 1).1.ls w') ∧ w.grownBy w' (some l) := by
  have hK := Lib.hid (read16_no b 2 true w _ (take_no b l s p f t x 2 w h hl ok hn))
  clear h hl ok hn
  go_enter Tryz.func152, Tryz.ntmps152
  go_wp2_with fail
  refine hK.out.mono ?_
  rintro e w1 ⟨rfl, hw⟩
  have HW := Lib.hid hw
  clear hw
  go_wp2
  go_ret2
  exact ⟨rfl, HW.out⟩

end Go.Proofs.YtcfdippcobkbaaaGreat.Sr

/- Readings of one byte, by the steps that are left. -/
namespace Go.Proofs.YtcfdippcobkbaaaGreat.Tk
open Go.ChangeShapes Go.WideShapes Go.ChangeAt Go.RowKit
open Go.Proofs.YtcfdippcobkbaaaGreat.Le Go.Proofs.YtcfdippcobkbaaaGreat.Sr
set_option linter.unusedVariables false

/-- n further steps are done. -/
def stp (x : St) (n : Nat) : St := { x with st := x.st + n }
/-- All steps are done, and one more was refused. -/
def spent (x : St) : St := { x with st := x.s, r := 3, a := 1 }
theorem stp_0 (x : St) : stp x 0 = x := by simp [stp]
theorem stp_stp (x : St) (a b : Nat) : stp (stp x a) b = stp x (a + b) := by simp [stp, Int.add_assoc]
theorem stp_spent (x : St) (n : Nat) : spent (stp x n) = spent x := rfl
theorem stp_r (x : St) (n : Nat) : (stp x n).r = x.r := rfl
theorem stp_s (x : St) (n : Nat) : (stp x n).s = x.s := rfl
theorem stp_st (x : St) (n : Nat) : (stp x n).st = x.st + n := rfl
theorem work_one {x : St} (hr : x.r = 0) (h : x.st + 1 ≤ x.s) : x.work 1 = (stp x 1, true) := by
  unfold St.work
  rw [if_neg (by simpa using hr), if_neg (by omega)]
  rfl
theorem work_none {x : St} (ok : x.Ok) (hr : x.r = 0) (h : x.s < x.st + 1) : x.work 1 = (spent x, false) := by
  have := ok.ts
  have e : x.st = x.s := by omega
  unfold St.work
  rw [if_neg (by simpa using hr), if_pos (by omega), St.refuse, if_pos hr]
  unfold spent
  rw [← e]

/-- A source of the ledger l over all of the text s, at p; the ledger's state is x. -/
structure Rd (c l : Nat) (s : ByteArray) (p : Nat) (x : St) (w : World) : Prop where
  so : So c l s p 0 s.size w
  led : Led l x.ls w
  ok : x.Ok
theorem Rd.grown {c l : Nat} {s : ByteArray} {p : Nat} {x : St} {w w' : World} (h : Rd c l s p x w) (g : w.grownBy w' none) : Rd c l s p x w' :=
  ⟨h.so.grown g (by simp), h.led.grown g (by simp), h.ok⟩

theorem Rd.st {c l : Nat} {s : ByteArray} {p : Nat} {x : St} {w : World} {k i : Nat} {v : Value} (h : Rd c l s p x w) (hc : c ≠ k) (hl : l ≠ k) : Rd c l s p x (w.setCell ⟨k, i, none⟩ v) :=
  ⟨⟨blk_other h.so.blk hc, h.so.bl, h.so.fp, h.so.pt, h.so.ts, h.so.big⟩, h.led.oth hl, h.ok⟩
theorem Rd.clt {c l : Nat} {s : ByteArray} {p : Nat} {x : St} {w : World} (h : Rd c l s p x w) : c < w.heap.size := h.so.lt
theorem Rd.llt {c l : Nat} {s : ByteArray} {p : Nat} {x : St} {w : World} (h : Rd c l s p x w) : l < w.heap.size := h.led.lt
/-- A block made since may be written. -/
theorem Tn.own1 {a b : World} {S : List Nat} {k i : Nat} {v : Value} (h : Tn a b S) (hk : a.heap.size ≤ k) : Tn a (b.setCell ⟨k, i, none⟩ v) S :=
  h.over (Tn.set b k i v (List.mem_singleton.2 rfl)) (fun x hx => .inl (by rw [List.mem_singleton] at hx; omega))

/-- Block r is a fault. -/
def Fl (r : Nat) (k f a : Int) (w : World) : Prop := w.heap[r]? = some (.cells #[.int .i64 k, .int .i64 f, .int .i64 a] 34 (0, 0))
theorem Fl.c0 {r : Nat} {k f a : Int} {w : World} (h : Fl r k f a w) : w.cell? ⟨r, 0, none⟩ = some (.int .i64 k) := blk_cell h 0
theorem Fl.c1 {r : Nat} {k f a : Int} {w : World} (h : Fl r k f a w) : w.cell? ⟨r, 1, none⟩ = some (.int .i64 f) := blk_cell h 1
theorem Fl.c2 {r : Nat} {k f a : Int} {w : World} (h : Fl r k f a w) : w.cell? ⟨r, 2, none⟩ = some (.int .i64 a) := blk_cell h 2
theorem Fl.free {r : Nat} {k f a : Int} {w : World} (h : Fl r k f a w) (o : Nat) : w.frozen? ⟨r, o, none⟩ = false := blk_free h o
theorem Fl.lt {r : Nat} {k f a : Int} {w : World} (h : Fl r k f a w) : r < w.heap.size := blk_lt h
theorem Fl.turned {r : Nat} {k f a : Int} {w w' : World} {S : List Nat} (h : Fl r k f a w) (t : Tn w w' S) (h1 : r ∉ S) : Fl r k f a w' := (t.block r h.lt h1).trans h
theorem Fl.set {r : Nat} {k f a : Int} {w : World} (h : Fl r k f a w) (k' f' a' : Int) : Fl r k' f' a' (((w.setCell ⟨r, 0, none⟩ (.int .i64 k')).setCell ⟨r, 1, none⟩ (.int .i64 f')).setCell ⟨r, 2, none⟩ (.int .i64 a')) :=
  blk_set (blk_set (blk_set h 0 (.int .i64 k')) 1 (.int .i64 f')) 2 (.int .i64 a')
theorem Fl.new (w : World) : Fl w.heap.size 0 0 0 (w.alloc (.cells #[.int .i64 0, .int .i64 0, .int .i64 0] 34)) := blk_at

theorem get_congr (a b : List UInt8) (e : a = b) (i : Nat) : a.getD i 0 = b.getD i 0 := by rw [e]
theorem byte_numV (s : ByteArray) (p : Nat) (h : p < s.size) : Sr.numV false (s.extract p (p + 1)) = bt s p := by
  have hl : (s.extract p (p + 1)).data.toList = [s.data.toList.getD p 0] := by
    rw [Lib.extract_data]
    have h2 : p < s.data.toList.length := by rw [← Lib.size_eq]; exact h
    rw [show p + 1 - p = 1 from by omega]
    rw [List.getD_eq_getElem?_getD, List.getElem?_eq_getElem h2]
    rw [List.drop_eq_getElem_cons h2]
    rfl
  unfold Sr.numV
  rw [hl]
  simp [acc, ordd, bt]

theorem u8_byte (c l : Nat) (s : ByteArray) (p : Nat) (x : St) (w : World) (h : Rd c l s p x w) (hr : x.r = 0) (hk : x.st + 1 ≤ x.s) (hp : p < s.size) :
    Calls Tryz.prog 81 #[.pointer (some ⟨c, 0, none⟩)] w
      fun e w' => e = .returned (.tuple #[.int .i64 (bt s p), .bool true]) ∧ Rd c l s (p + 1) (stp x 1) w' ∧ Tn w w' [c, l] := by
  have hw := work_one hr hk
  have hn : rdB x p s.size 1 = true := by
    unfold rdB
    rw [hw]
    simp [canB]
    omega
  refine (u8_yes c l s p 0 s.size x w h.so h.led h.ok hn).mono fun e w' ⟨he, ⟨S, L⟩, t⟩ => ⟨?_, ⟨S, ?_, ?_⟩, t⟩
  · rw [he, byte_numV s p hp]
  · rw [hw] at L
    exact L
  · have := h.ok.work 1
    rw [hw] at this
    exact this

theorem u8_over (c l : Nat) (s : ByteArray) (p : Nat) (x : St) (w : World) (h : Rd c l s p x w) (hr : x.r = 0) (hk : x.st + 1 ≤ x.s) (hp : s.size ≤ p) :
    Calls Tryz.prog 81 #[.pointer (some ⟨c, 0, none⟩)] w
      fun e w' => e = .returned (.tuple #[.int .i64 0, .bool false]) ∧ Rd c l s p (stp x 1) w' ∧ Tn w w' [c, l] := by
  have hw := work_one hr hk
  have hn : rdB x p s.size 1 = false := by
    unfold rdB
    rw [hw]
    simp [canB]
    omega
  refine (u8_no c l s p 0 s.size x w h.so h.led h.ok hn).mono fun e w' ⟨he, ⟨S, L⟩, t⟩ => ⟨he, ⟨S, ?_, ?_⟩, Tn.gb t (by simp)⟩
  · rw [hw] at L
    exact L
  · have := h.ok.work 1
    rw [hw] at this
    exact this

theorem u8_spent (c l : Nat) (s : ByteArray) (p : Nat) (x : St) (w : World) (h : Rd c l s p x w) (hr : x.r = 0) (hk : x.s < x.st + 1) :
    Calls Tryz.prog 81 #[.pointer (some ⟨c, 0, none⟩)] w
      fun e w' => e = .returned (.tuple #[.int .i64 0, .bool false]) ∧ Rd c l s p (spent x) w' ∧ Tn w w' [c, l] := by
  have hw := work_none h.ok hr hk
  have hn : rdB x p s.size 1 = false := by
    unfold rdB
    rw [hw]
    rfl
  refine (u8_no c l s p 0 s.size x w h.so h.led h.ok hn).mono fun e w' ⟨he, ⟨S, L⟩, t⟩ => ⟨he, ⟨S, ?_, ?_⟩, Tn.gb t (by simp)⟩
  · rw [hw] at L
    exact L
  · have := h.ok.work 1
    rw [hw] at this
    exact this

/-- Why a reading failed. -/
theorem fault_spent (c l : Nat) (s : ByteArray) (p : Nat) (x : St) (k : Int) (w : World) (h : Rd c l s p (spent x) w) :
    Calls Tryz.prog 82 #[.pointer (some ⟨c, 0, none⟩), .int .i64 k] w
      fun e w' => e = .returned (.agg #[.int .i64 4, .int .i64 k, .int .i64 p]) ∧ Rd c l s p (spent x) w' ∧ w.grownBy w' none :=
  (fault_calls c l s p 0 s.size (spent x) k w h.so h.led).mono fun e w' ⟨he, g⟩ => ⟨by rw [he, if_neg (by show ¬ (3 : Int) = 0; decide)], h.grown g, g⟩
theorem fault_end (c l : Nat) (s : ByteArray) (p : Nat) (x : St) (k : Int) (w : World) (h : Rd c l s p x w) (hr : x.r = 0) :
    Calls Tryz.prog 82 #[.pointer (some ⟨c, 0, none⟩), .int .i64 k] w
      fun e w' => e = .returned (.agg #[.int .i64 1, .int .i64 k, .int .i64 s.size]) ∧ Rd c l s p x w' ∧ w.grownBy w' none :=
  (fault_calls c l s p 0 s.size x k w h.so h.led).mono fun e w' ⟨he, g⟩ => ⟨by rw [he, if_pos hr], h.grown g, g⟩
theorem left_rd (c l : Nat) (s : ByteArray) (p : Nat) (x : St) (w : World) (h : Rd c l s p x w) :
    Calls Tryz.prog 106 #[.pointer (some ⟨c, 0, none⟩)] w fun e w' => e = .returned (.int .i64 ((s.size : Int) - p)) ∧ Rd c l s p x w' ∧ Tn w w' [c, l] :=
  (left_calls c l s p 0 s.size w h.so).mono fun e w' ⟨he, n, hw⟩ => ⟨he, hw ▸ h.grown (gb_drewN _ _ _), hw ▸ Tn.gb (gb_drewN _ _ none) (by simp)⟩
theorem at_rd (c l : Nat) (s : ByteArray) (p : Nat) (x : St) (w : World) (h : Rd c l s p x w) :
    Calls Tryz.prog 49 #[.pointer (some ⟨c, 0, none⟩)] w fun e w' => e = .returned (.int .i64 p) ∧ w = w' :=
  at_calls c l s p 0 s.size w h.so
theorem seek_rd (c l : Nat) (s : ByteArray) (p q : Nat) (x : St) (w : World) (h : Rd c l s p x w) (hq : q ≤ s.size) :
    Calls Tryz.prog 133 #[.pointer (some ⟨c, 0, none⟩), .int .i64 q] w fun e w' => e = .returned (.bool true) ∧ Rd c l s q x w' ∧ Tn w w' [c, l] :=
  (seek_yes c l s p 0 s.size q w h.so (Nat.zero_le _) hq).mono fun e w' ⟨he, S, g⟩ => ⟨he, ⟨S, h.led.grown g (by simpa using h.so.bl.symm), h.ok⟩, Tn.gb g (by simp)⟩

end Go.Proofs.YtcfdippcobkbaaaGreat.Tk

/- Package token: blank bytes, digits; going over blanks and remarks. -/
namespace Go.Proofs.YtcfdippcobkbaaaGreat.Tk
open Go.ChangeShapes Go.WideShapes Go.ChangeAt Go.RowKit
open Go.Proofs.YtcfdippcobkbaaaGreat.Le Go.Proofs.YtcfdippcobkbaaaGreat.Sr
set_option linter.unusedVariables false

theorem blank_calls (b : Nat) (W : World) : Calls Tryz.prog 83 #[.int .i64 b] W fun e w' => e = .returned (.bool (blankB b)) ∧ W = w' := by
  have hc : (((b : Int) == 32) = true ∧ blankB b = true) ∨ (((b : Int) == 32) = false ∧ decide ((9 : Int) ≤ b) = false ∧ blankB b = false) ∨ (((b : Int) == 32) = false ∧ decide ((9 : Int) ≤ b) = true ∧ decide ((b : Int) ≤ 13) = true ∧ blankB b = true) ∨
      (((b : Int) == 32) = false ∧ decide ((9 : Int) ≤ b) = true ∧ decide ((b : Int) ≤ 13) = false ∧ blankB b = false) := by
    rw [blankB_iff, blankB_not]
    by_cases h1 : b = 32
    · exact .inl ⟨by rw [beq_iff_eq]; omega, .inl h1⟩
    · have e1 : ((b : Int) == 32) = false := by rw [beq_eq_false_iff_ne]; omega
      by_cases h2 : 9 ≤ b
      · by_cases h3 : b ≤ 13
        · exact .inr (.inr (.inl ⟨e1, decide_eq_true (by omega), decide_eq_true (by omega), .inr ⟨h2, h3⟩⟩))
        · exact .inr (.inr (.inr ⟨e1, decide_eq_true (by omega), decide_eq_false (by omega), by omega⟩))
      · exact .inr (.inl ⟨e1, decide_eq_false (by omega), by omega⟩)
  rcases hc with ⟨d1, e⟩ | ⟨d1, d2, e⟩ | ⟨d1, d2, d3, e⟩ | ⟨d1, d2, d3, e⟩
  all_goals
    rw [e]
    clear e
    go_enter Tryz.func83, Tryz.ntmps83
    go_wp2
    go_ret
    exact ⟨rfl, rfl⟩

def digB (b m : Nat) : Bool := decide (48 ≤ b) && decide (b ≤ 48 + m)
theorem digB_iff (b m : Nat) : digB b m = true ↔ 48 ≤ b ∧ b ≤ 48 + m := by simp [digB]
theorem digB_not (b m : Nat) : digB b m = false ↔ ¬ (48 ≤ b ∧ b ≤ 48 + m) := by
  rw [← digB_iff]
  simp

theorem digit_calls (b m : Nat) (W : World) (hm : m ≤ 9) : Calls Tryz.prog 107 #[.int .i64 b, .int .i64 m] W fun e w' => e = .returned (.bool (digB b m)) ∧ W = w' := by
  have hc : (decide ((48 : Int) ≤ b) = false ∧ digB b m = false) ∨ (decide ((48 : Int) ≤ b) = true ∧ decide ((b : Int) ≤ 48 + (m : Int)) = true ∧ digB b m = true) ∨ (decide ((48 : Int) ≤ b) = true ∧ decide ((b : Int) ≤ 48 + (m : Int)) = false ∧ digB b m = false) := by
    rw [digB_iff, digB_not]
    by_cases h2 : 48 ≤ b
    · by_cases h3 : b ≤ 48 + m
      · exact .inr (.inl ⟨decide_eq_true (by omega), decide_eq_true (by omega), h2, h3⟩)
      · exact .inr (.inr ⟨decide_eq_true (by omega), decide_eq_false (by omega), by omega⟩)
    · exact .inl ⟨decide_eq_false (by omega), by omega⟩
  rcases hc with ⟨d1, e⟩ | ⟨d1, d2, e⟩ | ⟨d1, d2, e⟩
  all_goals
    rw [e]
    clear e
    go_enter Tryz.func107, Tryz.ntmps107
    go_wp2
    go_ret
    exact ⟨rfl, rfl⟩

theorem back_calls (c l : Nat) (s : ByteArray) (p : Nat) (x : St) (w : World) (h : Rd c l s (p + 1) x w) :
    Calls Tryz.prog 108 #[.pointer (some ⟨c, 0, none⟩)] w fun e w' => e = .returned (.tuple #[]) ∧ Rd c l s p x w' ∧ Tn w w' [c, l] := by
  have KA := Lib.hid (at_rd c l s (p + 1) x w h)
  have hp := h.so.pt
  have hb := h.so.big
  have KS := Lib.hid (seek_rd c l s (p + 1) p x w h (by omega))
  clear h
  go_enter Tryz.func108, Tryz.ntmps108
  go_wp2_with fail
  refine KA.out.mono ?_
  rintro e w1 ⟨rfl, rfl⟩
  go_wp2_with fail
  refine KS.out.mono ?_
  rintro e w1 ⟨rfl, R, t⟩
  have HR := Lib.hid R
  have HT := Lib.hid t
  clear R t
  go_wp2
  go_end0
  exact ⟨rfl, HR.out, HT.out⟩

theorem malformed_calls (c l : Nat) (s : ByteArray) (p : Nat) (x : St) (w : World) (h : Rd c l s (p + 1) x w) :
    Calls Tryz.prog 84 #[.pointer (some ⟨c, 0, none⟩)] w fun e w' => e = .returned (.agg #[.int .i64 2, .int .i64 3, .int .i64 p]) ∧ Rd c l s (p + 1) x w' ∧ w.grownBy w' none := by
  have KA := Lib.hid (fun u (g : w.grownBy u none) => at_rd c l s (p + 1) x u (h.grown g))
  have hp := h.so.pt
  have hb := h.so.big
  have ht := h.so.ts
  have HR := Lib.hid h
  clear h
  go_enter Tryz.func84, Tryz.ntmps84
  go_wp2_with fail
  refine (KA.out _ (World.grownBy_alloc _ _ _)).mono ?_
  rintro e w1 ⟨rfl, rfl⟩
  go_wp2
  refine bodyPost_ret (v := .agg #[.int .i64 2, .int .i64 3, .int .i64 p]) (by simp only [results, Tryz.results84]; go_simp) rfl ⟨rfl, HR.out.grown (World.grownBy_alloc _ _ _), World.grownBy_alloc _ _ _⟩

/-- Behind blanks and remarks, from within a remark or not. -/
def ovR (s : ByteArray) (j : Nat) (b : Bool) : Nat := if b = true then overV s (remNext s j) else overV s j
theorem remNext_on {s : ByteArray} {j : Nat} (h : j < s.size) (h1 : bt s j ≠ 10) (h2 : bt s j ≠ 13) : remNext s j = remNext s (j + 1) := by
  unfold remNext
  rw [remEnd_on h h1 h2]
theorem remNext_at {s : ByteArray} {j : Nat} (h : j < s.size) (h1 : bt s j = 10 ∨ bt s j = 13) : remNext s j = j + 1 := by
  unfold remNext
  rw [remEnd_stop (by omega), if_pos h]
theorem remNext_end (s : ByteArray) : remNext s s.size = s.size := by
  unfold remNext
  rw [remEnd_stop (by omega), if_neg (by omega)]
theorem ovR_begin {s : ByteArray} {j : Nat} (h : j < s.size) (h1 : bt s j = 35) : ovR s (j + 1) true = ovR s j false := by
  show overV s _ = overV s _
  rw [overV_rem h h1, remNext_on h (by omega) (by omega)]
theorem ovR_rem {s : ByteArray} {j : Nat} (h : j < s.size) (h1 : bt s j ≠ 10) (h2 : bt s j ≠ 13) : ovR s (j + 1) true = ovR s j true := by
  show overV s _ = overV s _
  rw [remNext_on h h1 h2]
theorem ovR_close {s : ByteArray} {j : Nat} (h : j < s.size) (h1 : bt s j = 10 ∨ bt s j = 13) : ovR s (j + 1) false = ovR s j true := by
  show overV s _ = overV s _
  rw [remNext_at h h1]
theorem ovR_blank {s : ByteArray} {j : Nat} (h : j < s.size) (h1 : blankB (bt s j) = true) : ovR s (j + 1) false = ovR s j false := by
  show overV s _ = overV s _
  rw [overV_blank h h1]
theorem ovR_stop {s : ByteArray} {j : Nat} (h : j < s.size) (h1 : bt s j ≠ 35) (h2 : blankB (bt s j) = false) : ovR s j false = j := overV_stop h h1 h2
theorem ovR_end (s : ByteArray) (b : Bool) : ovR s s.size b = s.size := by
  cases b
  · exact overV_end (Nat.le_refl _)
  · show overV s _ = _
    rw [remNext_end]
    exact overV_end (Nat.le_refl _)
theorem ovR_ge (s : ByteArray) (j : Nat) (b : Bool) : j ≤ ovR s j b := by
  cases b
  · exact overV_ge s _ j rfl
  · have h := overV_ge s _ (remNext s j) rfl
    have h3 := remEnd_ge s _ j rfl
    have : remEnd s j ≤ remNext s j := by unfold remNext; split <;> omega
    show j ≤ overV s _
    omega
theorem ovR_gt {s : ByteArray} {j : Nat} (h : j < s.size) : j < ovR s j true := by
  have h := overV_ge s _ (remNext s j) rfl
  have h3 := remEnd_ge s _ j rfl
  have : j < remNext s j := by unfold remNext; split <;> omega
  show j < overV s _
  omega

/-- How many readings going over blanks takes: a byte that is none is read, and given back. -/
def ovN (s : ByteArray) (p : Nat) : Nat := overV s p - p + (if overV s p < s.size then 1 else 0)

/-- The steps ran out: told, with a place within the text. -/
def noF (q : Nat) : Value := .agg #[.int .i64 4, .int .i64 3, .int .i64 q]
def okF : Value := .agg #[.int .i64 0, .int .i64 0, .int .i64 0]

set_option maxRecDepth 100000 in
set_option maxHeartbeats 2000000 in
theorem over_calls (c l : Nat) (s : ByteArray) (p : Nat) (x : St) (W : World) (h : Rd c l s p x W) (hr : x.r = 0) :
    Calls Tryz.prog 132 #[.pointer (some ⟨c, 0, none⟩)] W fun e w' =>
      ∃ q, p ≤ q ∧ q ≤ s.size ∧ Tn W w' [c, l] ∧ ((e = .returned okF ∧ q = overV s p ∧ Rd c l s q (stp x (ovN s p)) w') ∨ (x.s < x.st + ovN s p ∧ e = .returned (noF q) ∧ Rd c l s q (spent x) w')) := by
  obtain ⟨o, ho⟩ : ∃ o, overV s p = o := ⟨_, rfl⟩
  obtain ⟨N, hN⟩ : ∃ N, ovN s p = N := ⟨_, rfl⟩
  have hps := h.so.pt
  have hbig := h.so.big
  have hN' : N = o - p + (if o < s.size then 1 else 0) := by rw [← hN, ← ho]; rfl
  rw [ho, hN]
  have HO := Lib.hid ho
  have HN := Lib.hid hN'
  have HR := Lib.hid hr
  have hcw := h.clt
  have hlw := h.llt
  have hF0 := Fl.new W
  have hT0 : Tn W (W.alloc (.cells #[.int .i64 0, .int .i64 0, .int .i64 0] 34)) [c, l] := Tn.gb (World.grownBy_alloc _ _ none) (by simp)
  have H := Lib.hid (h.grown (World.grownBy_alloc W (.cells #[.int .i64 0, .int .i64 0, .int .i64 0] 34) none))
  have HF0 := Lib.hid hF0
  have HT0 := Lib.hid hT0
  obtain ⟨r, hrw⟩ : ∃ r, W.heap.size = r := ⟨_, rfl⟩
  have hrc : r ≠ c := by omega
  have hrl : r ≠ l := by omega
  have HRW := Lib.hid hrw
  have HNI : r ∉ [c, l] := by simp [hrc, hrl]
  have HC := Lib.hid hrc
  have HL := Lib.hid hrl
  clear h ho hN hN' hr hF0 hT0 hcw hlw hrc hrl
  go_enter Tryz.func132, Tryz.ntmps132
  go_wp2_with fail
  rw [HRW.out] at HF0
  clear hrw
  go_step3
  go_wp2_with fail
  go_step3
  go_wp2_with fail
  go_loopg [3] (s.size - p) (fun q iv wr => ∃ (j : Nat) (b : Bool), j ≤ s.size ∧ p ≤ j ∧ q = s.size - j ∧ iv = .bool b ∧ ovR s j b = o ∧ Rd c l s j (stp x (j - p)) wr ∧ Tn W wr [c, l] ∧ Fl r 0 0 0 wr)
  case atStart => exact ⟨p, false, hps, Nat.le_refl _, rfl, rfl, HO.out, by rw [Nat.sub_self, stp_0]; exact H.out, HT0.out, HF0.out⟩
  case round =>
    obtain ⟨j, b, hj, hpj, rfl, rfl, J, R0, T0, F0⟩ := hrel
    have HJ := Lib.hid J
    have KL := Lib.hid (left_rd c l s j _ wr R0)
    have HT0 := Lib.hid T0
    have HF0 := Lib.hid F0
    clear J R0 T0 F0
    go_wp2_with fail
    refine KL.out.mono ?_
    rintro e w1 ⟨rfl, R1, t1⟩
    have HR1 := Lib.hid R1
    have HT1 := Lib.hid (HT0.out.trans t1)
    have HF1 := Lib.hid (HF0.out.turned t1 HNI)
    clear R1 t1 KL HT0 HF0
    have hR1 := HR1.out.ok.ts
    rw [stp_st, stp_s] at hR1
    by_cases hjs : j < s.size
    · have d0 : decide ((0 : Int) < (s.size : Int) - (j : Int)) = true := decide_eq_true (by omega)
      by_cases hk : x.s < x.st + (j - p : Nat) + 1
      · have hno : x.s < x.st + N := by
          have e := HN.out
          have g := ovR_ge s j b
          rw [HJ.out] at g
          by_cases ho : o < s.size
          · rw [if_pos ho] at e
            omega
          · rw [if_neg ho] at e
            omega
        have HNO := Lib.hid hno
        have KU := Lib.hid (u8_spent c l s j _ w1 HR1.out HR.out hk)
        clear hno hk
        go_wp2_with fail
        refine KU.out.mono ?_
        rintro e w2 ⟨rfl, R2, t2⟩
        have KF := Lib.hid (fault_spent c l s j _ 3 w2 R2)
        have HT2 := Lib.hid (HT1.out.trans t2)
        have HF2 := Lib.hid (HF1.out.turned t2 HNI)
        clear R2 t2 KU HR1 HT1 HF1
        go_wp2_with fail
        refine KF.out.mono ?_
        rintro e w3 ⟨rfl, R3, g3⟩
        have F3 : Fl r 0 0 0 w3 := HF2.out.turned (Tn.gb g3 (S := [c, l]) (by simp)) HNI
        have q0 := F3.c0
        have q1 := F3.c1
        have q2 := F3.c2
        have f0 := F3.free 0
        have f1 := F3.free 1
        have f2 := F3.free 2
        have HR3 := Lib.hid R3
        have HT3 := Lib.hid (HT2.out.trans (Tn.gb g3 (by simp)))
        clear R3 g3 KF HT2 F3 HF2
        go_wp2
        try rw [Exit.noGoto_ret]
        refine bodyPost_ret (v := noF j) (by simp only [results, Tryz.results132, noF]; go_simp) rfl ⟨j, hpj, hj, ?_, .inr ⟨HNO.out, rfl, ?_⟩⟩
        · have hk := HRW.out
          exact Tn.own1 (Tn.own1 (Tn.own1 HT3.out (by omega)) (by omega)) (by omega)
        · exact ((HR3.out.st HC.out.symm HL.out.symm).st HC.out.symm HL.out.symm).st HC.out.symm HL.out.symm
      · have KU := Lib.hid (u8_byte c l s j _ w1 HR1.out HR.out (by rw [stp_st, stp_s]; omega) hjs)
        obtain ⟨y, hy⟩ : ∃ y, bt s j = y := ⟨_, rfl⟩
        rw [hy] at KU
        have cl : y < 256 := by rw [← hy]; exact bt_lt s j
        have HY := Lib.hid hy
        clear hy hk
        cases b with
        | true =>
          have hx : (y ≠ 10 ∧ y ≠ 13 ∧ ((y : Int) == 10) = false ∧ ((y : Int) != 10) = true ∧ ((y : Int) == 13) = false ∧ ((y : Int) != 13) = true) ∨ (y = 10 ∧ ((y : Int) == 10) = true ∧ ((y : Int) != 10) = false) ∨ (y = 13 ∧ ((y : Int) == 10) = false ∧ ((y : Int) != 10) = true ∧ ((y : Int) == 13) = true ∧ ((y : Int) != 13) = false) := by
            by_cases h1 : y = 10
            · exact .inr (.inl ⟨h1, by rw [beq_iff_eq]; omega, by rw [bne_eq_false_iff_eq]; omega⟩)
            · by_cases h2 : y = 13
              · exact .inr (.inr ⟨h2, by rw [beq_eq_false_iff_ne]; omega, by rw [bne_iff_ne]; omega, by rw [beq_iff_eq]; omega, by rw [bne_eq_false_iff_eq]; omega⟩)
              · exact .inl ⟨h1, h2, by rw [beq_eq_false_iff_ne]; omega, by rw [bne_iff_ne]; omega, by rw [beq_eq_false_iff_ne]; omega, by rw [bne_iff_ne]; omega⟩
          rcases hx with ⟨h1, h2, d1, d1', d2, d2'⟩ | ⟨h1, d1, d1'⟩ | ⟨h1, d1, d1', d2, d2'⟩
          · have HE := Lib.hid ((ovR_rem hjs (by rw [HY.out]; exact h1) (by rw [HY.out]; exact h2)).trans HJ.out)
            clear h1 h2
            go_wp2_with fail
            refine KU.out.mono ?_
            rintro e w2 ⟨rfl, R2, t2⟩
            rw [stp_stp] at R2
            have HR2 := Lib.hid R2
            have HT2 := Lib.hid (HT1.out.trans t2)
            have HF2 := Lib.hid (HF1.out.turned t2 HNI)
            clear R2 t2 KU HR1 HT1 HF1
            go_wp2
            go_roundg (s.size - (j + 1))
            case measure => omega
            case rel => exact ⟨j + 1, true, by omega, by omega, rfl, rfl, HE.out, by rw [show j + 1 - p = j - p + 1 from by omega]; exact HR2.out, HT2.out, HF2.out⟩
          · have HE := Lib.hid ((ovR_close hjs (by rw [HY.out]; exact .inl h1)).trans HJ.out)
            clear h1
            go_wp2_with fail
            refine KU.out.mono ?_
            rintro e w2 ⟨rfl, R2, t2⟩
            rw [stp_stp] at R2
            have HR2 := Lib.hid R2
            have HT2 := Lib.hid (HT1.out.trans t2)
            have HF2 := Lib.hid (HF1.out.turned t2 HNI)
            clear R2 t2 KU HR1 HT1 HF1
            go_wp2
            go_roundg (s.size - (j + 1))
            case measure => omega
            case rel => exact ⟨j + 1, false, by omega, by omega, rfl, rfl, HE.out, by rw [show j + 1 - p = j - p + 1 from by omega]; exact HR2.out, HT2.out, HF2.out⟩
          · have HE := Lib.hid ((ovR_close hjs (by rw [HY.out]; exact .inr h1)).trans HJ.out)
            clear h1
            go_wp2_with fail
            refine KU.out.mono ?_
            rintro e w2 ⟨rfl, R2, t2⟩
            rw [stp_stp] at R2
            have HR2 := Lib.hid R2
            have HT2 := Lib.hid (HT1.out.trans t2)
            have HF2 := Lib.hid (HF1.out.turned t2 HNI)
            clear R2 t2 KU HR1 HT1 HF1
            go_wp2
            go_roundg (s.size - (j + 1))
            case measure => omega
            case rel => exact ⟨j + 1, false, by omega, by omega, rfl, rfl, HE.out, by rw [show j + 1 - p = j - p + 1 from by omega]; exact HR2.out, HT2.out, HF2.out⟩
        | false =>
          by_cases h35 : y = 35
          · have d1 : ((y : Int) == 35) = true := by rw [beq_iff_eq]; omega
            have HE := Lib.hid ((ovR_begin hjs (by rw [HY.out]; exact h35)).trans HJ.out)
            clear h35
            go_wp2_with fail
            refine KU.out.mono ?_
            rintro e w2 ⟨rfl, R2, t2⟩
            rw [stp_stp] at R2
            have HR2 := Lib.hid R2
            have HT2 := Lib.hid (HT1.out.trans t2)
            have HF2 := Lib.hid (HF1.out.turned t2 HNI)
            clear R2 t2 KU HR1 HT1 HF1
            go_wp2
            go_roundg (s.size - (j + 1))
            case measure => omega
            case rel => exact ⟨j + 1, true, by omega, by omega, rfl, rfl, HE.out, by rw [show j + 1 - p = j - p + 1 from by omega]; exact HR2.out, HT2.out, HF2.out⟩
          · have d1 : ((y : Int) == 35) = false := by rw [beq_eq_false_iff_ne]; omega
            have H35 := Lib.hid h35
            have KB := fun u => blank_calls y u
            clear h35
            cases eB : blankB y
            · simp only [eB] at KB
              have KBh := Lib.hid KB
              have hre : o = j := by rw [← HJ.out, ovR_stop hjs (by rw [HY.out]; exact H35.out) (by rw [HY.out]; exact eB)]
              subst hre
              have hN : N = o - p + 1 := by rw [HN.out, if_pos hjs]
              subst hN
              clear eB KB
              go_wp2_with fail
              refine KU.out.mono ?_
              rintro e w2 ⟨rfl, R2, t2⟩
              rw [stp_stp] at R2
              have KK := Lib.hid (back_calls c l s o _ w2 R2)
              have HT2 := Lib.hid (HT1.out.trans t2)
              have HF2 := Lib.hid (HF1.out.turned t2 HNI)
              clear R2 t2 KU HR1 HT1 HF1
              go_wp2_with fail
              refine (KBh.out _).mono ?_
              rintro e w' ⟨rfl, rfl⟩
              go_wp2_with fail
              refine KK.out.mono ?_
              rintro e w3 ⟨rfl, R3, t3⟩
              have F3 : Fl r 0 0 0 w3 := HF2.out.turned t3 HNI
              have q0 := F3.c0
              have q1 := F3.c1
              have q2 := F3.c2
              have f0 := F3.free 0
              have f1 := F3.free 1
              have f2 := F3.free 2
              have HR3 := Lib.hid R3
              have HT3 := Lib.hid (HT2.out.trans t3)
              clear R3 t3 KK HT2 F3 HF2
              go_wp2
              try rw [Exit.noGoto_ret]
              refine bodyPost_ret (v := okF) (by simp only [results, Tryz.results132, okF]; go_simp) rfl ⟨o, hpj, hj, ?_, .inl ⟨rfl, rfl, ?_⟩⟩
              · have hk := HRW.out
                exact Tn.own1 (Tn.own1 (Tn.own1 HT3.out (by omega)) (by omega)) (by omega)
              · exact ((HR3.out.st HC.out.symm HL.out.symm).st HC.out.symm HL.out.symm).st HC.out.symm HL.out.symm
            · simp only [eB] at KB
              have KBh := Lib.hid KB
              have HE := Lib.hid ((ovR_blank hjs (by rw [HY.out]; exact eB)).trans HJ.out)
              clear eB KB
              go_wp2_with fail
              refine KU.out.mono ?_
              rintro e w2 ⟨rfl, R2, t2⟩
              rw [stp_stp] at R2
              have HR2 := Lib.hid R2
              have HT2 := Lib.hid (HT1.out.trans t2)
              have HF2 := Lib.hid (HF1.out.turned t2 HNI)
              clear R2 t2 KU HR1 HT1 HF1
              go_wp2_with fail
              refine (KBh.out _).mono ?_
              rintro e w' ⟨rfl, rfl⟩
              go_wp2
              go_roundg (s.size - (j + 1))
              case measure => omega
              case rel => exact ⟨j + 1, false, by omega, by omega, rfl, rfl, HE.out, by rw [show j + 1 - p = j - p + 1 from by omega]; exact HR2.out, HT2.out, HF2.out⟩
    · obtain rfl : j = s.size := by omega
      have hre : o = s.size := by rw [← HJ.out, ovR_end]
      subst hre
      have hN : N = s.size - p := by rw [HN.out, if_neg (by omega)]; rfl
      subst hN
      have d0 : decide ((0 : Int) < (s.size : Int) - (s.size : Int)) = false := decide_eq_false (by omega)
      have q0 := HF1.out.c0
      have q1 := HF1.out.c1
      have q2 := HF1.out.c2
      have f0 := HF1.out.free 0
      have f1 := HF1.out.free 1
      have f2 := HF1.out.free 2
      go_wp2
      try rw [Exit.noGoto_ret]
      refine bodyPost_ret (v := okF) (by simp only [results, Tryz.results132, okF]; go_simp) rfl ⟨s.size, hpj, hj, ?_, .inl ⟨rfl, rfl, ?_⟩⟩
      · have hk := HRW.out
        exact Tn.own1 (Tn.own1 (Tn.own1 HT1.out (by omega)) (by omega)) (by omega)
      · exact ((HR1.out.st HC.out.symm HL.out.symm).st HC.out.symm HL.out.symm).st HC.out.symm HL.out.symm

end Go.Proofs.YtcfdippcobkbaaaGreat.Tk

/- Package token: the first digit. -/
namespace Go.Proofs.YtcfdippcobkbaaaGreat.Tk
open Go.ChangeShapes Go.WideShapes Go.ChangeAt Go.RowKit
open Go.Proofs.YtcfdippcobkbaaaGreat.Le Go.Proofs.YtcfdippcobkbaaaGreat.Sr
set_option linter.unusedVariables false

def fmK (k : Nat) : Nat := if k = 0 then 0 else 3
/-- What a function of the package answers: value, place, fault. -/
def gotT (g : Got) : Value := .tuple #[.int .i64 g.v, .int .i64 g.from_, .agg #[.int .i64 g.kind, .int .i64 (fmK g.kind), .int .i64 g.place]]
def noT (q : Nat) : Value := .tuple #[.int .i64 0, .int .i64 0, .agg #[.int .i64 4, .int .i64 3, .int .i64 q]]
/-- A digit of at most m. -/
def dgV (s : ByteArray) (k m : Nat) : Got :=
  if s.size ≤ overV s k then ⟨0, 0, 0, 1, s.size⟩
  else if digB (bt s (overV s k)) m = true then ⟨bt s (overV s k) - 48, overV s k, overV s k + 1, 0, 0⟩
  else ⟨0, 0, 0, 2, overV s k⟩
theorem dgV_none {s : ByteArray} {k m o : Nat} (ho : overV s k = o) (h : s.size ≤ o) : dgV s k m = ⟨0, 0, 0, 1, s.size⟩ := by
  unfold dgV
  rw [ho, if_pos h]
theorem dgV_bad {s : ByteArray} {k m o y : Nat} (ho : overV s k = o) (h : o < s.size) (hy : bt s o = y) (h1 : digB y m = false) : dgV s k m = ⟨0, 0, 0, 2, o⟩ := by
  unfold dgV
  rw [ho, if_neg (by omega), hy, if_neg (by rw [h1]; decide)]
theorem dgV_yes {s : ByteArray} {k m o y : Nat} (ho : overV s k = o) (h : o < s.size) (hy : bt s o = y) (h1 : digB y m = true) : dgV s k m = ⟨y - 48, o, o + 1, 0, 0⟩ := by
  unfold dgV
  rw [ho, if_neg (by omega), hy, if_pos h1]

/-- Behind a function of the package: N readings were wanted. -/
def GP (W : World) (c l : Nat) (s : ByteArray) (p : Nat) (x : St) (g : Got) (N : Nat) (e : Ending) (w' : World) : Prop :=
  ∃ q, p ≤ q ∧ q ≤ s.size ∧ Tn W w' [c, l] ∧ ((e = .returned (gotT g) ∧ (g.kind = 0 → q = g.next) ∧ Rd c l s q (stp x N) w') ∨ (x.s < x.st + (N : Int) ∧ e = .returned (noT q) ∧ Rd c l s q (spent x) w'))

theorem Rd.st3 {c l : Nat} {s : ByteArray} {p : Nat} {x : St} {w : World} {k : Nat} {v0 v1 v2 : Value} (h : Rd c l s p x w) (hc : k ≠ c) (hl : k ≠ l) : Rd c l s p x (((w.setCell ⟨k, 0, none⟩ v0).setCell ⟨k, 1, none⟩ v1).setCell ⟨k, 2, none⟩ v2) :=
  ((h.st hc.symm hl.symm).st hc.symm hl.symm).st hc.symm hl.symm
theorem Tn.own3 {a b : World} {S : List Nat} {k : Nat} {v0 v1 v2 : Value} (h : Tn a b S) (hk : a.heap.size = k) : Tn a (((b.setCell ⟨k, 0, none⟩ v0).setCell ⟨k, 1, none⟩ v1).setCell ⟨k, 2, none⟩ v2) S :=
  Tn.own1 (Tn.own1 (Tn.own1 h (by omega)) (by omega)) (by omega)

set_option maxRecDepth 100000 in
set_option maxHeartbeats 2000000 in
theorem first_calls (c l : Nat) (s : ByteArray) (p m : Nat) (x : St) (W : World) (h : Rd c l s p x W) (hr : x.r = 0) (hm : m ≤ 9) :
    Calls Tryz.prog 105 #[.pointer (some ⟨c, 0, none⟩), .int .i64 m] W (GP W c l s p x (dgV s p m) (ovN s p + 1)) := by
  obtain ⟨o, ho⟩ : ∃ o, overV s p = o := ⟨_, rfl⟩
  obtain ⟨N, hN⟩ : ∃ N, ovN s p = N := ⟨_, rfl⟩
  have hbig := h.so.big
  have hcw := h.clt
  have hlw := h.llt
  have hF0 := Fl.new W
  have hT0 : Tn W (W.alloc (.cells #[.int .i64 0, .int .i64 0, .int .i64 0] 34)) [c, l] := Tn.gb (World.grownBy_alloc _ _ none) (by simp)
  have KO := over_calls c l s p x _ (h.grown (World.grownBy_alloc W (.cells #[.int .i64 0, .int .i64 0, .int .i64 0] 34) none)) hr
  rw [ho, hN] at KO
  obtain ⟨g, hg⟩ : ∃ g, dgV s p m = g := ⟨_, rfl⟩
  rw [hg, hN]
  have HG := Lib.hid hg
  have KO := Lib.hid KO
  have HO := Lib.hid ho
  have HR := Lib.hid hr
  have HF0 := Lib.hid hF0
  have HT0 := Lib.hid hT0
  obtain ⟨r, hrw⟩ : ∃ r, W.heap.size = r := ⟨_, rfl⟩
  have hrc : r ≠ c := by omega
  have hrl : r ≠ l := by omega
  have HRW := Lib.hid hrw
  have HNI : r ∉ [c, l] := by simp [hrc, hrl]
  have HC := Lib.hid hrc
  have HL := Lib.hid hrl
  clear h ho hN hr hF0 hT0 hcw hlw hrc hrl hg
  go_enter Tryz.func105, Tryz.ntmps105
  go_wp2_with fail
  rw [HRW.out] at HF0
  refine KO.out.mono ?_
  rintro e w1 ⟨q, hpq, hqs, T1, ⟨rfl, rfl, R1⟩ | ⟨hno, rfl, R1⟩⟩
  · have F1 : Fl r 0 0 0 w1 := HF0.out.turned T1 HNI
    have q0 := F1.c0
    have q1 := F1.c1
    have q2 := F1.c2
    have f0 := F1.free 0
    have f1 := F1.free 1
    have f2 := F1.free 2
    have HF1 := Lib.hid (F1.set 0 0 0)
    have HT1 := Lib.hid (Tn.own3 (v0 := .int .i64 0) (v1 := .int .i64 0) (v2 := .int .i64 0) (HT0.out.trans T1) hrw)
    have HR1 := Lib.hid (R1.st3 (v0 := .int .i64 0) (v1 := .int .i64 0) (v2 := .int .i64 0) HC.out HL.out)
    clear R1 T1 F1 KO
    simp only [okF]
    clear hrw
    go_wp2_with fail
    generalize (((w1.setCell ⟨r, 0, none⟩ (.int .i64 0)).setCell ⟨r, 1, none⟩ (.int .i64 0)).setCell ⟨r, 2, none⟩ (.int .i64 0)) = w2 at HF1 HT1 HR1 ⊢
    clear q0 q1 q2 f0 f1 f2
    by_cases hk : x.s < x.st + (N : Int) + 1
    · refine (u8_spent c l s q _ w2 HR1.out HR.out hk).mono ?_
      rintro e w3 ⟨rfl, R3, t3⟩
      have KF := Lib.hid (fault_spent c l s q _ 3 w3 R3)
      have HT3 := Lib.hid (HT1.out.trans t3)
      have HF3 := Lib.hid (HF1.out.turned t3 HNI)
      have HK := Lib.hid hk
      clear R3 t3 HR1 HT1 HF1 hk
      go_wp2_with fail
      refine KF.out.mono ?_
      rintro e w4 ⟨rfl, R4, g4⟩
      have F9 : Fl r 0 0 0 w4 := HF3.out.turned (Tn.gb g4 (S := [c, l]) (by simp)) HNI
      have q0 := F9.c0
      have q1 := F9.c1
      have q2 := F9.c2
      have f0 := F9.free 0
      have f1 := F9.free 1
      have f2 := F9.free 2
      have HR9 := Lib.hid R4
      have HT9 := Lib.hid (HT3.out.trans (Tn.gb g4 (by simp)))
      clear R4 g4 KF HT3 HF3 F9
      go_wp2
      refine bodyPost_ret (v := noT q) (by simp only [results, Tryz.results105, noT]; go_simp) rfl ⟨q, hpq, hqs, Tn.own3 HT9.out HRW.out, .inr ⟨by have := HK.out; omega, rfl, HR9.out.st3 HC.out HL.out⟩⟩
    · have HK : x.st + (N : Int) + 1 ≤ x.s := by omega
      clear hk
      by_cases hqz : q < s.size
      · obtain ⟨y, hy⟩ : ∃ y, bt s q = y := ⟨_, rfl⟩
        have KU := u8_byte c l s q _ w2 HR1.out HR.out HK hqz
        have y256 : y < 256 := by rw [← hy]; exact bt_lt s q
        rw [hy] at KU
        refine KU.mono ?_
        rintro e w3 ⟨rfl, R3, t3⟩
        rw [stp_stp] at R3
        have KB := fun u => digit_calls y m u hm
        have HT3 := Lib.hid (HT1.out.trans t3)
        have HF3 := Lib.hid (HF1.out.turned t3 HNI)
        cases eB : digB y m
        · simp only [eB] at KB
          have KBh := Lib.hid KB
          have hg := HG.out.symm.trans (dgV_bad HO.out hqz hy eB)
          subst hg
          have KM := Lib.hid (malformed_calls c l s q _ w3 R3)
          clear R3 t3 HR1 HT1 HF1 KU KB HG HK hy
          go_wp2_with fail
          refine (KBh.out _).mono ?_
          rintro e w' ⟨rfl, rfl⟩
          go_wp2_with fail
          refine KM.out.mono ?_
          rintro e w4 ⟨rfl, R4, g4⟩
          have F9 : Fl r 0 0 0 w4 := HF3.out.turned (Tn.gb g4 (S := [c, l]) (by simp)) HNI
          have q0 := F9.c0
          have q1 := F9.c1
          have q2 := F9.c2
          have f0 := F9.free 0
          have f1 := F9.free 1
          have f2 := F9.free 2
          have HR9 := Lib.hid R4
          have HT9 := Lib.hid (HT3.out.trans (Tn.gb g4 (by simp)))
          clear R4 g4 KM HT3 HF3 F9
          go_wp2
          refine bodyPost_ret (v := gotT ⟨0, 0, 0, 2, q⟩) (by simp only [results, Tryz.results105, gotT]; go_simp; rfl) rfl ⟨q + 1, by omega, by omega, Tn.own3 HT9.out HRW.out, .inl ⟨rfl, (fun h => absurd (a := (2 : Nat) = 0) h (by decide)), HR9.out.st3 HC.out HL.out⟩⟩
        · simp only [eB] at KB
          have KBh := Lib.hid KB
          have hg := HG.out.symm.trans (dgV_yes HO.out hqz hy eB)
          subst hg
          have hd := (digB_iff y m).1 eB
          obtain ⟨d, rfl⟩ : ∃ d : Nat, y = d + 48 := ⟨y - 48, by omega⟩
          have hde : (((d + 48 : Nat) : Int) - 48) = d := by omega
          have hqe : (((q + 1 : Nat) : Int) - 1) = q := by omega
          have KA := Lib.hid (at_rd c l s (q + 1) _ w3 R3)
          have F9 : Fl r 0 0 0 w3 := HF3.out
          have q0 := F9.c0
          have q1 := F9.c1
          have q2 := F9.c2
          have f0 := F9.free 0
          have f1 := F9.free 1
          have f2 := F9.free 2
          have HR3 := Lib.hid R3
          clear R3 t3 HR1 HT1 HF1 KU KB HG HK hy HF3 F9 eB
          go_wp2_with fail
          refine (KBh.out _).mono ?_
          rintro e w' ⟨rfl, rfl⟩
          go_wp2_with fail
          refine KA.out.mono ?_
          rintro e w' ⟨rfl, rfl⟩
          go_wp2
          refine bodyPost_ret (v := gotT ⟨d, q, q + 1, 0, 0⟩) (by simp only [results, Tryz.results105, gotT]; go_simp; try rfl) rfl ⟨q + 1, by omega, by omega, Tn.own3 HT3.out HRW.out, .inl ⟨rfl, fun _ => rfl, HR3.out.st3 HC.out HL.out⟩⟩
      · have hqe : q = s.size := by omega
        have hg := HG.out.symm.trans (dgV_none HO.out (by omega))
        subst hg
        refine (u8_over c l s q _ w2 HR1.out HR.out HK (by omega)).mono ?_
        rintro e w3 ⟨rfl, R3, t3⟩
        rw [stp_stp] at R3
        have KF := Lib.hid (fault_end c l s q _ 3 w3 R3 HR.out)
        have HT3 := Lib.hid (HT1.out.trans t3)
        have HF3 := Lib.hid (HF1.out.turned t3 HNI)
        clear R3 t3 HR1 HT1 HF1 HG HK
        go_wp2_with fail
        refine KF.out.mono ?_
        rintro e w4 ⟨rfl, R4, g4⟩
        have F9 : Fl r 0 0 0 w4 := HF3.out.turned (Tn.gb g4 (S := [c, l]) (by simp)) HNI
        have q0 := F9.c0
        have q1 := F9.c1
        have q2 := F9.c2
        have f0 := F9.free 0
        have f1 := F9.free 1
        have f2 := F9.free 2
        have HR9 := Lib.hid R4
        have HT9 := Lib.hid (HT3.out.trans (Tn.gb g4 (by simp)))
        clear R4 g4 KF HT3 HF3 F9
        go_wp2
        refine bodyPost_ret (v := gotT ⟨0, 0, 0, 1, s.size⟩) (by simp only [results, Tryz.results105, gotT]; go_simp; try rfl) rfl ⟨q, hpq, hqs, Tn.own3 HT9.out HRW.out, .inl ⟨rfl, (fun h => absurd (a := (1 : Nat) = 0) h (by decide)), HR9.out.st3 HC.out HL.out⟩⟩
  · have F1 : Fl r 0 0 0 w1 := HF0.out.turned T1 HNI
    have q0 := F1.c0
    have q1 := F1.c1
    have q2 := F1.c2
    have f0 := F1.free 0
    have f1 := F1.free 1
    have f2 := F1.free 2
    have HF1 := Lib.hid (F1.set 4 3 q)
    have HT1 := Lib.hid (Tn.own3 (v0 := .int .i64 4) (v1 := .int .i64 3) (v2 := .int .i64 q) (HT0.out.trans T1) hrw)
    have HR1 := Lib.hid (R1.st3 (v0 := .int .i64 4) (v1 := .int .i64 3) (v2 := .int .i64 q) HC.out HL.out)
    have HNO := Lib.hid hno
    clear R1 T1 F1 KO hno
    simp only [noF]
    clear hrw
    go_wp2_with fail
    generalize (((w1.setCell ⟨r, 0, none⟩ (.int .i64 4)).setCell ⟨r, 1, none⟩ (.int .i64 3)).setCell ⟨r, 2, none⟩ (.int .i64 q)) = w2 at HF1 HT1 HR1 ⊢
    clear q0 q1 q2 f0 f1 f2
    have q0 := HF1.out.c0
    have q1 := HF1.out.c1
    have q2 := HF1.out.c2
    have f0 := HF1.out.free 0
    have f1 := HF1.out.free 1
    have f2 := HF1.out.free 2
    go_region
    go_wp2
    refine bodyPost_ret (v := noT q) (by simp only [results, Tryz.results105, noT]; go_simp) rfl ⟨q, hpq, hqs, (Tn.own3 HT1.out HRW.out).trans (Tn.drew _ _), .inr ⟨by have := HNO.out; omega, rfl, (HR1.out.st3 HC.out HL.out).grown (gb_drew _ _)⟩⟩

end Go.Proofs.YtcfdippcobkbaaaGreat.Tk

/- Package token: a number. -/
namespace Go.Proofs.YtcfdippcobkbaaaGreat.Tk
open Go.ChangeShapes Go.WideShapes Go.ChangeAt Go.RowKit
open Go.Proofs.YtcfdippcobkbaaaGreat.Le Go.Proofs.YtcfdippcobkbaaaGreat.Sr
set_option linter.unusedVariables false

/-- How many readings a number takes. -/
def numN (s : ByteArray) (p : Nat) : Nat :=
  if s.size ≤ overV s p then overV s p - p + 1
  else if (Tk.numV s (overV s p) 0).2 = overV s p then overV s p - p + 2
  else (Tk.numV s (overV s p) 0).2 - p + 1 + (if (Tk.numV s (overV s p) 0).2 < s.size then 1 else 0)
/-- Value 0, place 0, a fault. -/
def ftT (k f a : Int) : Value := .tuple #[.int .i64 0, .int .i64 0, .agg #[.int .i64 k, .int .i64 f, .int .i64 a]]
theorem capN_small {d : Nat} (h : d ≤ 9) : capN d = d := by
  unfold capN
  rw [if_neg (by omega)]
theorem gotV_none' {s : ByteArray} {k f : Nat} (hf : overV s k = f) (h : s.size ≤ f) : gotV s k = ⟨0, 0, 0, 1, s.size⟩ := by
  unfold gotV
  rw [hf, if_pos h]
theorem gotV_bad' {s : ByteArray} {k f : Nat} (hf : overV s k = f) (h : f < s.size) (h1 : ¬ (48 ≤ bt s f ∧ bt s f ≤ 57)) : gotV s k = ⟨0, 0, 0, 2, f⟩ := by
  unfold gotV
  rw [hf, if_neg (by omega), numV_stop (fun h' => h1 h'.2), if_pos rfl]
theorem gotV_yes' {s : ByteArray} {k f v j : Nat} (hf : overV s k = f) (h : f < s.size) (h1 : Tk.numV s f 0 = (v, j)) (h2 : f < j) : gotV s k = ⟨v, f, j, 0, 0⟩ := by
  unfold gotV
  rw [hf, if_neg (by omega), h1, if_neg (by show ¬ j = f; omega)]
theorem numN_none {s : ByteArray} {p o : Nat} (ho : overV s p = o) (h : s.size ≤ o) : numN s p = ovN s p + 1 := by
  unfold numN ovN
  rw [ho, if_pos h, if_neg (by omega)]
theorem numN_bad {s : ByteArray} {p o : Nat} (ho : overV s p = o) (h : o < s.size) (h1 : ¬ (48 ≤ bt s o ∧ bt s o ≤ 57)) : numN s p = ovN s p + 1 := by
  unfold numN ovN
  rw [ho, if_neg (by omega), numV_stop (fun h' => h1 h'.2), if_pos rfl, if_pos h]
theorem numN_yes {s : ByteArray} {p o v j : Nat} (ho : overV s p = o) (h : o < s.size) (h1 : Tk.numV s o 0 = (v, j)) (h2 : o < j) : numN s p = j - p + 1 + (if j < s.size then 1 else 0) := by
  unfold numN
  rw [ho, if_neg (by omega), h1, if_neg (by show ¬ j = o; omega)]

/-- The first digit, as a number wants it: a fault, which ends it, or the digit. -/
theorem first9_calls (c l : Nat) (s : ByteArray) (p : Nat) (x : St) (W0 W : World) (h : Rd c l s p x W) (hr : x.r = 0) :
    Calls Tryz.prog 105 #[.pointer (some ⟨c, 0, none⟩), .int .i64 9] W fun e w' =>
      ∃ q, p ≤ q ∧ q ≤ s.size ∧ Tn W w' [c, l] ∧
        ((∃ (k f a : Int) (y : St), k ≠ 0 ∧ e = .returned (ftT k f a) ∧ Rd c l s q y w' ∧ (∀ u, Tn W0 u [c, l] → Rd c l s q y u → GP W0 c l s p x (gotV s p) (numN s p) (.returned (ftT k f a)) u)) ∨
         (∃ o d : Nat, overV s p = o ∧ p ≤ o ∧ o < s.size ∧ d ≤ 9 ∧ Tk.numV s o 0 = Tk.numV s (o + 1) d ∧ e = .returned (.tuple #[.int .i64 d, .int .i64 o, .agg #[.int .i64 0, .int .i64 0, .int .i64 0]]) ∧ Rd c l s (o + 1) (stp x (o + 1 - p + 1)) w')) := by
  refine (first_calls c l s p 9 x W h hr (by decide)).mono ?_
  rintro e w' ⟨q, hpq, hqs, t, h1⟩
  refine ⟨q, hpq, hqs, t, ?_⟩
  obtain ⟨o, ho⟩ : ∃ o, overV s p = o := ⟨_, rfl⟩
  have hpo : p ≤ o := by rw [← ho]; exact overV_ge s _ p rfl
  rcases h1 with ⟨he, hn, R⟩ | ⟨hno, he, R⟩
  · by_cases hz : s.size ≤ o
    · rw [dgV_none ho hz] at he hn
      refine .inl ⟨1, 3, s.size, _, by decide, he, R, fun u t' R' => ⟨q, hpq, hqs, t', .inl ⟨?_, ?_, ?_⟩⟩⟩
      · rw [gotV_none' ho hz]
        rfl
      · rw [gotV_none' ho hz]
        exact fun h => absurd (a := (1 : Nat) = 0) h (by decide)
      · rw [numN_none ho hz]
        exact R'
    · by_cases hd : digB (bt s o) 9 = true
      · have hd' := (digB_iff _ _).1 hd
        rw [dgV_yes ho (by omega) rfl hd] at he hn
        have hq : q = o + 1 := hn rfl
        subst hq
        refine .inr ⟨o, bt s o - 48, ho, hpo, by omega, by omega, ?_, he, ?_⟩
        · rw [numV_on (by omega) hd'.1 hd'.2, show 10 * 0 + bt s o - 48 = bt s o - 48 from by omega, capN_small (by omega)]
        · have hN : ovN s p = o - p + 1 := by
            unfold ovN
            rw [ho, if_pos (by omega)]
          rw [hN] at R
          rw [show o + 1 - p + 1 = o - p + 1 + 1 from by omega]
          exact R
      · have hd' : ¬ (48 ≤ bt s o ∧ bt s o ≤ 57) := fun h' => hd ((digB_iff _ _).2 h')
        rw [dgV_bad ho (by omega) rfl (by simpa using hd)] at he hn
        refine .inl ⟨2, 3, o, _, by decide, he, R, fun u t' R' => ⟨q, hpq, hqs, t', .inl ⟨?_, ?_, ?_⟩⟩⟩
        · rw [gotV_bad' ho (by omega) hd']
          rfl
        · rw [gotV_bad' ho (by omega) hd']
          exact fun h => absurd (a := (2 : Nat) = 0) h (by decide)
        · rw [numN_bad ho (by omega) hd']
          exact R'
  · refine .inl ⟨4, 3, q, _, by decide, he, R, fun u t' R' => ⟨q, hpq, hqs, t', .inr ⟨?_, rfl, R'⟩⟩⟩
    have hge : ovN s p + 1 ≤ numN s p := by
      by_cases hz : s.size ≤ o
      · rw [numN_none ho hz]
        exact Nat.le_refl _
      · by_cases hd : 48 ≤ bt s o ∧ bt s o ≤ 57
        · have h3 := numV_on (v := 0) (by omega : o < s.size) hd.1 hd.2
          have h4 := numV_ge s _ (o + 1) (capN (10 * 0 + bt s o - 48)) rfl
          rw [← h3] at h4
          obtain ⟨⟨v, j⟩, hj⟩ : ∃ z, Tk.numV s o 0 = z := ⟨_, rfl⟩
          rw [hj] at h4
          have h4' : o + 1 ≤ j := h4
          rw [numN_yes ho (by omega) hj (by omega)]
          unfold ovN
          rw [ho, if_pos (by omega)]
          omega
        · rw [numN_bad ho (by omega) hd]
          exact Nat.le_refl _
    omega

set_option maxRecDepth 100000 in
set_option maxHeartbeats 2000000 in
theorem number_calls (c l : Nat) (s : ByteArray) (p : Nat) (x : St) (W : World) (h : Rd c l s p x W) (hr : x.r = 0) :
    Calls Tryz.prog 78 #[.pointer (some ⟨c, 0, none⟩)] W (GP W c l s p x (gotV s p) (numN s p)) := by
  have hbig := h.so.big
  have hcw := h.clt
  have hlw := h.llt
  have hF0 := Fl.new W
  have hT0 : Tn W (W.alloc (.cells #[.int .i64 0, .int .i64 0, .int .i64 0] 34)) [c, l] := Tn.gb (World.grownBy_alloc _ _ none) (by simp)
  have KO := first9_calls c l s p x W _ (h.grown (World.grownBy_alloc W (.cells #[.int .i64 0, .int .i64 0, .int .i64 0] 34) none)) hr
  obtain ⟨Q, hQ⟩ : ∃ Q, GP W c l s p x (gotV s p) (numN s p) = Q := ⟨_, rfl⟩
  rw [hQ] at KO ⊢
  have HQ := Lib.hid hQ
  have KO := Lib.hid KO
  have HR := Lib.hid hr
  have HF0 := Lib.hid hF0
  have HT0 := Lib.hid hT0
  obtain ⟨r, hrw⟩ : ∃ r, W.heap.size = r := ⟨_, rfl⟩
  have hrc : r ≠ c := by omega
  have hrl : r ≠ l := by omega
  have HRW := Lib.hid hrw
  have HNI : r ∉ [c, l] := by simp [hrc, hrl]
  have HC := Lib.hid hrc
  have HL := Lib.hid hrl
  clear h hr hF0 hT0 hcw hlw hrc hrl hQ
  go_enter Tryz.func78, Tryz.ntmps78
  go_wp2_with fail
  rw [HRW.out] at HF0
  refine KO.out.mono ?_
  rintro e w1 ⟨q, hpq, hqs, T1, ⟨k, f, a, y, hk0, rfl, R1, hfin⟩ | ⟨o, d, ho, hpo, hos, hd9, hnum, rfl, R1⟩⟩
  · have F1 : Fl r 0 0 0 w1 := HF0.out.turned T1 HNI
    have q0 := F1.c0
    have q1 := F1.c1
    have q2 := F1.c2
    have f0 := F1.free 0
    have f1 := F1.free 1
    have f2 := F1.free 2
    have HF1 := Lib.hid (F1.set k f a)
    have HT1 := Lib.hid (Tn.own3 (v0 := .int .i64 k) (v1 := .int .i64 f) (v2 := .int .i64 a) (HT0.out.trans T1) hrw)
    have HR1 := Lib.hid (R1.st3 (v0 := .int .i64 k) (v1 := .int .i64 f) (v2 := .int .i64 a) HC.out HL.out)
    have HFI := Lib.hid hfin
    have d0 : (k == 0) = false := by rw [beq_eq_false_iff_ne]; exact hk0
    have d0' : (k != 0) = true := by rw [bne_iff_ne]; exact hk0
    clear R1 T1 F1 KO hfin
    simp only [ftT]
    clear hrw
    go_wp2_with fail
    generalize (((w1.setCell ⟨r, 0, none⟩ (.int .i64 k)).setCell ⟨r, 1, none⟩ (.int .i64 f)).setCell ⟨r, 2, none⟩ (.int .i64 a)) = w2 at HF1 HT1 HR1 ⊢
    clear q0 q1 q2 f0 f1 f2
    have q0 := HF1.out.c0
    have q1 := HF1.out.c1
    have q2 := HF1.out.c2
    have f0 := HF1.out.free 0
    have f1 := HF1.out.free 1
    have f2 := HF1.out.free 2
    go_region
    go_wp2
    refine bodyPost_ret (v := ftT k f a) (by simp only [results, Tryz.results78, ftT]; go_simp) rfl ?_
    exact HFI.out _ ((Tn.own3 HT1.out HRW.out).trans (Tn.drew _ _)) ((HR1.out.st3 HC.out HL.out).grown (gb_drew _ _))
  · have F1 : Fl r 0 0 0 w1 := HF0.out.turned T1 HNI
    have q0 := F1.c0
    have q1 := F1.c1
    have q2 := F1.c2
    have f0 := F1.free 0
    have f1 := F1.free 1
    have f2 := F1.free 2
    have HF1 := Lib.hid (F1.set 0 0 0)
    have HT1 := Lib.hid (Tn.own3 (v0 := .int .i64 0) (v1 := .int .i64 0) (v2 := .int .i64 0) (HT0.out.trans T1) hrw)
    have HR1 := Lib.hid (R1.st3 (v0 := .int .i64 0) (v1 := .int .i64 0) (v2 := .int .i64 0) HC.out HL.out)
    have HO := Lib.hid ho
    have HNU := Lib.hid hnum
    clear R1 T1 F1 KO hnum ho
    clear hrw
    go_wp2_with fail
    generalize (((w1.setCell ⟨r, 0, none⟩ (.int .i64 0)).setCell ⟨r, 1, none⟩ (.int .i64 0)).setCell ⟨r, 2, none⟩ (.int .i64 0)) = w2 at HF1 HT1 HR1 ⊢
    clear q0 q1 q2 f0 f1 f2
    go_loopg [2, 3] (s.size - (o + 1)) (fun q vv av wr => ∃ j v : Nat, o + 1 ≤ j ∧ j ≤ s.size ∧ v ≤ 1000000000 ∧ q = s.size - j ∧ vv = .int .i64 v ∧ av = .int .i64 o ∧ Tk.numV s o 0 = Tk.numV s j v ∧ Rd c l s j (stp x (j - p + 1)) wr ∧ Tn W wr [c, l] ∧ Fl r 0 0 0 wr)
    case atStart => exact ⟨o + 1, d, Nat.le_refl _, by omega, by omega, rfl, rfl, rfl, HNU.out, HR1.out, HT1.out, HF1.out⟩
    case round =>
      obtain ⟨j, v, hoj, hj, hv, rfl, rfl, rfl, J, R0, T0, F0⟩ := hrel
      have HJ := Lib.hid J
      have KL := Lib.hid (left_rd c l s j _ wr R0)
      have HT0 := Lib.hid T0
      have HF0 := Lib.hid F0
      clear J R0 T0 F0 HF1 HT1 HR1 HNU
      go_wp2_with fail
      refine KL.out.mono ?_
      rintro e w3 ⟨rfl, R1, t1⟩
      have HR1 := Lib.hid R1
      have HT1 := Lib.hid (HT0.out.trans t1)
      have HF1 := Lib.hid (HF0.out.turned t1 HNI)
      clear R1 t1 KL HT0 HF0
      have hR1 := HR1.out.ok.ts
      rw [stp_st, stp_s] at hR1
      by_cases hjs : j < s.size
      · have d0 : decide ((0 : Int) < (s.size : Int) - (j : Int)) = true := decide_eq_true (by omega)
        have hnv : ∃ j' v', Tk.numV s o 0 = (v', j') ∧ j ≤ j' := ⟨(Tk.numV s o 0).2, (Tk.numV s o 0).1, rfl, by rw [HJ.out]; exact numV_ge s _ j v rfl⟩
        by_cases hk : x.s < x.st + (j - p + 1 : Nat) + 1
        · have hno : x.s < x.st + numN s p := by
            obtain ⟨j', v', e1, e2⟩ := hnv
            rw [numN_yes HO.out hos e1 (by omega)]
            by_cases hj' : j' < s.size
            · rw [if_pos hj']
              omega
            · rw [if_neg hj']
              omega
          have HNO := Lib.hid hno
          have KU := Lib.hid (u8_spent c l s j _ w3 HR1.out HR.out hk)
          clear hno hk hnv
          go_wp2_with fail
          refine KU.out.mono ?_
          rintro e w4 ⟨rfl, R2, t2⟩
          have KF := Lib.hid (fault_spent c l s j _ 3 w4 R2)
          have HT2 := Lib.hid (HT1.out.trans t2)
          have HF2 := Lib.hid (HF1.out.turned t2 HNI)
          clear R2 t2 KU HR1 HT1 HF1
          go_wp2_with fail
          refine KF.out.mono ?_
          rintro e w5 ⟨rfl, R3, g3⟩
          have F9 : Fl r 0 0 0 w5 := HF2.out.turned (Tn.gb g3 (S := [c, l]) (by simp)) HNI
          have q0 := F9.c0
          have q1 := F9.c1
          have q2 := F9.c2
          have f0 := F9.free 0
          have f1 := F9.free 1
          have f2 := F9.free 2
          have HR9 := Lib.hid R3
          have HT9 := Lib.hid (HT2.out.trans (Tn.gb g3 (by simp)))
          clear R3 g3 KF HT2 HF2 F9
          go_wp2
          refine bodyPost_ret (v := noT j) (by simp only [results, Tryz.results78, noT]; go_simp) rfl ?_
          rw [← HQ.out]
          exact ⟨j, by omega, hj, Tn.own3 HT9.out HRW.out, .inr ⟨HNO.out, rfl, HR9.out.st3 HC.out HL.out⟩⟩
        · have KU := Lib.hid (u8_byte c l s j _ w3 HR1.out HR.out (by rw [stp_st, stp_s]; omega) hjs)
          obtain ⟨y, hy⟩ : ∃ y, bt s j = y := ⟨_, rfl⟩
          rw [hy] at KU
          have KB := fun u => digit_calls y 9 u (by decide)
          cases eB : digB y 9
          · simp only [eB] at KB
            have KBh := Lib.hid KB
            have hst := HJ.out.trans (numV_stop (v := v) (fun h' : j < s.size ∧ 48 ≤ bt s j ∧ bt s j ≤ 57 => (digB_not y 9).1 eB (by rw [← hy]; exact h'.2)))
            have hN : numN s p = j - p + 1 + 1 := by rw [numN_yes HO.out hos hst (by omega), if_pos hjs]
            have hG : gotV s p = ⟨v, o, j, 0, 0⟩ := gotV_yes' HO.out hos hst (by omega)
            have HN := Lib.hid hN
            have HG := Lib.hid hG
            clear eB KB hy hk hnv hst hN hG HJ
            go_wp2_with fail
            refine KU.out.mono ?_
            rintro e w4 ⟨rfl, R2, t2⟩
            rw [stp_stp] at R2
            have KK := Lib.hid (back_calls c l s j _ w4 R2)
            have HT2 := Lib.hid (HT1.out.trans t2)
            have HF2 := Lib.hid (HF1.out.turned t2 HNI)
            clear R2 t2 KU HR1 HT1 HF1
            go_wp2_with fail
            refine (KBh.out _).mono ?_
            rintro e w' ⟨rfl, rfl⟩
            go_wp2_with fail
            refine KK.out.mono ?_
            rintro e w5 ⟨rfl, R3, t3⟩
            have F9 : Fl r 0 0 0 w5 := HF2.out.turned t3 HNI
            have q0 := F9.c0
            have q1 := F9.c1
            have q2 := F9.c2
            have f0 := F9.free 0
            have f1 := F9.free 1
            have f2 := F9.free 2
            have HR9 := Lib.hid R3
            have HT9 := Lib.hid (HT2.out.trans t3)
            clear R3 t3 KK HT2 HF2 F9
            go_wp2
            refine bodyPost_ret (v := gotT ⟨v, o, j, 0, 0⟩) (by simp only [results, Tryz.results78, gotT]; go_simp; try rfl) rfl ?_
            rw [← HQ.out, HG.out, HN.out]
            exact ⟨j, by omega, hj, Tn.own3 HT9.out HRW.out, .inl ⟨rfl, fun _ => rfl, HR9.out.st3 HC.out HL.out⟩⟩
          · simp only [eB] at KB
            have KBh := Lib.hid KB
            have hd := (digB_iff y 9).1 eB
            have hon := HJ.out.trans (numV_on (v := v) hjs (by rw [hy]; exact hd.1) (by rw [hy]; exact hd.2))
            rw [hy] at hon
            obtain ⟨n, hn⟩ : ∃ n : Nat, 10 * v + y = n + 48 := ⟨10 * v + y - 48, by omega⟩
            rw [show 10 * v + y - 48 = n from by omega] at hon
            have hni : (10 * (v : Int) + (y : Int) - 48) = n := by omega
            have HON := Lib.hid hon
            have y9 := hd.2
            clear eB KB hy hk hnv hon HJ hd
            by_cases hcap : 999999999 < n
            · have ecap : capN n = 1000000000 := if_pos hcap
              have HON2 := Lib.hid (by have := HON.out; rw [ecap] at this; exact this)
              have d4 : min (n : Int) 1000000000 = 1000000000 := by omega
              clear ecap HON
              go_wp2_with fail
              refine KU.out.mono ?_
              rintro e w4 ⟨rfl, R2, t2⟩
              rw [stp_stp] at R2
              have HR2 := Lib.hid R2
              have HT2 := Lib.hid (HT1.out.trans t2)
              have HF2 := Lib.hid (HF1.out.turned t2 HNI)
              clear R2 t2 KU HR1 HT1 HF1
              go_wp2_with fail
              refine (KBh.out _).mono ?_
              rintro e w' ⟨rfl, rfl⟩
              go_wp2
              go_roundg (s.size - (j + 1))
              case measure => omega
              case rel => exact ⟨j + 1, 1000000000, by omega, by omega, by omega, rfl, by go_num, rfl, HON2.out, by rw [show j + 1 - p + 1 = j - p + 1 + 1 from by omega]; exact HR2.out, HT2.out, HF2.out⟩
            · have ecap : capN n = n := if_neg hcap
              have HON2 := Lib.hid (by have := HON.out; rw [ecap] at this; exact this)
              have d4 : min (n : Int) 1000000000 = n := by omega
              clear ecap HON
              go_wp2_with fail
              refine KU.out.mono ?_
              rintro e w4 ⟨rfl, R2, t2⟩
              rw [stp_stp] at R2
              have HR2 := Lib.hid R2
              have HT2 := Lib.hid (HT1.out.trans t2)
              have HF2 := Lib.hid (HF1.out.turned t2 HNI)
              clear R2 t2 KU HR1 HT1 HF1
              go_wp2_with fail
              refine (KBh.out _).mono ?_
              rintro e w' ⟨rfl, rfl⟩
              go_wp2
              go_roundg (s.size - (j + 1))
              case measure => omega
              case rel => exact ⟨j + 1, n, by omega, by omega, by omega, rfl, by go_num, rfl, HON2.out, by rw [show j + 1 - p + 1 = j - p + 1 + 1 from by omega]; exact HR2.out, HT2.out, HF2.out⟩
      · obtain rfl : j = s.size := by omega
        have hst := HJ.out.trans (numV_stop (v := v) (fun h' : s.size < s.size ∧ 48 ≤ bt s s.size ∧ bt s s.size ≤ 57 => absurd h'.1 (Nat.lt_irrefl _)))
        have hN : numN s p = s.size - p + 1 := by rw [numN_yes HO.out hos hst (by omega), if_neg (by omega)]
        have hG : gotV s p = ⟨v, o, s.size, 0, 0⟩ := gotV_yes' HO.out hos hst (by omega)
        have HN := Lib.hid hN
        have HG := Lib.hid hG
        have d0 : decide ((0 : Int) < (s.size : Int) - (s.size : Int)) = false := decide_eq_false (by omega)
        clear hst hN hG HJ
        have q0 := HF1.out.c0
        have q1 := HF1.out.c1
        have q2 := HF1.out.c2
        have f0 := HF1.out.free 0
        have f1 := HF1.out.free 1
        have f2 := HF1.out.free 2
        go_wp2
        refine bodyPost_ret (v := gotT ⟨v, o, s.size, 0, 0⟩) (by simp only [results, Tryz.results78, gotT]; go_simp; try rfl) rfl ?_
        rw [← HQ.out, HG.out, HN.out]
        exact ⟨s.size, by omega, Nat.le_refl _, Tn.own3 HT1.out HRW.out, .inl ⟨rfl, fun _ => rfl, HR1.out.st3 HC.out HL.out⟩⟩

end Go.Proofs.YtcfdippcobkbaaaGreat.Tk

/- Package token: a digit, one blank byte; what is said of the document's answers. -/
namespace Go.Proofs.YtcfdippcobkbaaaGreat.Tk
open Go.ChangeShapes Go.WideShapes Go.ChangeAt Go.RowKit
open Go.Proofs.YtcfdippcobkbaaaGreat.Le Go.Proofs.YtcfdippcobkbaaaGreat.Sr
set_option linter.unusedVariables false

/-- What holds of a document's answer of which N readings are wanted. -/
def Gd (s : ByteArray) (k : Nat) (g : Got) (N : Nat) : Prop :=
  (∃ kd pl, g = ⟨0, 0, 0, kd, pl⟩ ∧ kd ≠ 0 ∧ kd < 3 ∧ pl ≤ s.size ∧ N ≤ s.size - k + 2) ∨ (∃ v f j, g = ⟨v, f, j, 0, 0⟩ ∧ k ≤ f ∧ f < j ∧ j ≤ s.size ∧ v ≤ 1000000000 ∧ N ≤ j - k + 2)

theorem gotV_gd (s : ByteArray) (k : Nat) (hk : k ≤ s.size) : Gd s k (gotV s k) (numN s k) := by
  obtain ⟨o, ho⟩ : ∃ o, overV s k = o := ⟨_, rfl⟩
  have h1 := overV_ge s _ k rfl
  have h2 := overV_le s _ k rfl hk
  rw [ho] at h1 h2
  by_cases hz : s.size ≤ o
  · refine .inl ⟨1, s.size, gotV_none' ho hz, by decide, by decide, Nat.le_refl _, ?_⟩
    rw [numN_none ho hz]
    unfold ovN
    rw [ho, if_neg (by omega)]
    omega
  · by_cases hd : 48 ≤ bt s o ∧ bt s o ≤ 57
    · have h3 := numV_on (v := 0) (by omega : o < s.size) hd.1 hd.2
      have h4 := numV_ge s _ (o + 1) (capN (10 * 0 + bt s o - 48)) rfl
      rw [← h3] at h4
      have h5 := numV_le s _ o 0 rfl h2
      have h6 := numV_cap s _ o 0 rfl (by decide)
      obtain ⟨⟨v, j⟩, hj⟩ : ∃ z, Tk.numV s o 0 = z := ⟨_, rfl⟩
      rw [hj] at h4 h5 h6
      have h4' : o + 1 ≤ j := h4
      have h5' : j ≤ s.size := h5
      refine .inr ⟨v, o, j, gotV_yes' ho (by omega) hj (by omega), h1, by omega, h5', h6, ?_⟩
      rw [numN_yes ho (by omega) hj (by omega)]
      split <;> omega
    · refine .inl ⟨2, o, gotV_bad' ho (by omega) hd, by decide, by decide, h2, ?_⟩
      rw [numN_bad ho (by omega) hd]
      unfold ovN
      rw [ho, if_pos (by omega)]
      omega
theorem numN_le (s : ByteArray) (k : Nat) (hk : k ≤ s.size) : numN s k ≤ s.size - k + 2 := by
  rcases gotV_gd s k hk with ⟨_, _, _, _, _, _, h⟩ | ⟨_, _, j, _, _, _, _, _, h⟩
  · exact h
  · omega

theorem dgV_one (s : ByteArray) (k : Nat) : dgV s k 1 = digV s k := by
  unfold dgV digV
  by_cases hz : s.size ≤ overV s k
  · rw [if_pos hz, if_pos hz]
  · rw [if_neg hz, if_neg hz]
    by_cases h : bt s (overV s k) = 48 ∨ bt s (overV s k) = 49
    · rw [if_pos h, if_pos ((digB_iff _ _).2 (by omega))]
    · rw [if_neg h, if_neg (fun h' => h (by have := (digB_iff _ _).1 h'; omega))]
theorem digV_gd (s : ByteArray) (k : Nat) (hk : k ≤ s.size) : Gd s k (digV s k) (ovN s k + 1) := by
  rw [← dgV_one]
  obtain ⟨o, ho⟩ : ∃ o, overV s k = o := ⟨_, rfl⟩
  have h1 := overV_ge s _ k rfl
  have h2 := overV_le s _ k rfl hk
  rw [ho] at h1 h2
  by_cases hz : s.size ≤ o
  · refine .inl ⟨1, s.size, dgV_none ho hz, by decide, by decide, Nat.le_refl _, ?_⟩
    unfold ovN
    rw [ho, if_neg (by omega)]
    omega
  · have hN : ovN s k = o - k + 1 := by
      unfold ovN
      rw [ho, if_pos (by omega)]
    cases hd : digB (bt s o) 1
    · exact .inl ⟨2, o, dgV_bad ho (by omega) rfl hd, by decide, by decide, h2, by omega⟩
    · have := (digB_iff _ _).1 hd
      exact .inr ⟨bt s o - 48, o, o + 1, dgV_yes ho (by omega) rfl hd, h1, by omega, by omega, by omega, by omega⟩

/-- What a function of the package answers is a value, a place, a fault. -/
theorem GP.re {W0 W w' : World} {c l : Nat} {s : ByteArray} {p : Nat} {x : St} {g : Got} {N : Nat} {e : Ending} (h : GP W c l s p x g N e w') :
    ∃ (v at_ k f a : Int) (q : Nat) (y : St), e = .returned (.tuple #[.int .i64 v, .int .i64 at_, .agg #[.int .i64 k, .int .i64 f, .int .i64 a]]) ∧ Rd c l s q y w' ∧ Tn W w' [c, l] ∧
      (∀ u, Tn W0 u [c, l] → Rd c l s q y u → GP W0 c l s p x g N e u) := by
  obtain ⟨q, h1, h2, t, ⟨he, hn, R⟩ | ⟨hs, he, R⟩⟩ := h
  · exact ⟨_, _, _, _, _, q, _, he, R, t, fun u t' R' => ⟨q, h1, h2, t', .inl ⟨he, hn, R'⟩⟩⟩
  · exact ⟨_, _, _, _, _, q, _, he, R, t, fun u t' R' => ⟨q, h1, h2, t', .inr ⟨hs, he, R'⟩⟩⟩

set_option maxRecDepth 100000 in
set_option maxHeartbeats 2000000 in
theorem dig_calls (c l : Nat) (s : ByteArray) (p : Nat) (x : St) (W : World) (h : Rd c l s p x W) (hr : x.r = 0) :
    Calls Tryz.prog 121 #[.pointer (some ⟨c, 0, none⟩)] W (GP W c l s p x (digV s p) (ovN s p + 1)) := by
  have hcw := h.clt
  have hlw := h.llt
  have hF0 := Fl.new W
  have hT0 : Tn W (W.alloc (.cells #[.int .i64 0, .int .i64 0, .int .i64 0] 34)) [c, l] := Tn.gb (World.grownBy_alloc _ _ none) (by simp)
  have KO := first_calls c l s p 1 x _ (h.grown (World.grownBy_alloc W (.cells #[.int .i64 0, .int .i64 0, .int .i64 0] 34) none)) hr (by decide)
  rw [dgV_one] at KO
  obtain ⟨Q, hQ⟩ : ∃ Q, GP W c l s p x (digV s p) (ovN s p + 1) = Q := ⟨_, rfl⟩
  have KO := KO.mono (fun e w' h => GP.re (W0 := W) h)
  rw [hQ] at KO ⊢
  have KO := Lib.hid KO
  have HF0 := Lib.hid hF0
  have HT0 := Lib.hid hT0
  obtain ⟨r, hrw⟩ : ∃ r, W.heap.size = r := ⟨_, rfl⟩
  have hrc : r ≠ c := by omega
  have hrl : r ≠ l := by omega
  have HRW := Lib.hid hrw
  have HNI : r ∉ [c, l] := by simp [hrc, hrl]
  have HC := Lib.hid hrc
  have HL := Lib.hid hrl
  clear h hr hF0 hT0 hcw hlw hrc hrl hQ
  go_enter Tryz.func121, Tryz.ntmps121
  go_wp2_with fail
  rw [HRW.out] at HF0
  refine KO.out.mono ?_
  rintro e w1 ⟨v, at_, k, f, a, q, y, rfl, R1, T1, hfin⟩
  have F1 : Fl r 0 0 0 w1 := HF0.out.turned T1 HNI
  have q0 := F1.c0
  have q1 := F1.c1
  have q2 := F1.c2
  have f0 := F1.free 0
  have f1 := F1.free 1
  have f2 := F1.free 2
  have HT1 := Lib.hid (HT0.out.trans T1)
  have HR1 := Lib.hid R1
  have HFI := Lib.hid hfin
  clear R1 T1 F1 KO hfin hrw
  go_wp2
  refine bodyPost_ret (v := .tuple #[.int .i64 v, .int .i64 at_, .agg #[.int .i64 k, .int .i64 f, .int .i64 a]]) (by simp only [results, Tryz.results121]; go_simp) rfl ?_
  exact HFI.out _ (Tn.own3 HT1.out HRW.out) (HR1.out.st3 HC.out HL.out)

/-- One byte, which must be a blank one. -/
theorem one_yes (c l : Nat) (s : ByteArray) (p : Nat) (x : St) (W : World) (h : Rd c l s p x W) (hr : x.r = 0) (hk : x.st + 1 ≤ x.s) (hp : p < s.size) :
    Calls Tryz.prog 57 #[.pointer (some ⟨c, 0, none⟩)] W fun e w' =>
      e = .returned (if blankB (bt s p) = true then okF else .agg #[.int .i64 2, .int .i64 3, .int .i64 p]) ∧ Rd c l s (p + 1) (stp x 1) w' ∧ Tn W w' [c, l] := by
  have hcw := h.clt
  have hlw := h.llt
  have hF0 := Fl.new W
  have hT0 : Tn W (W.alloc (.cells #[.int .i64 0, .int .i64 0, .int .i64 0] 34)) [c, l] := Tn.gb (World.grownBy_alloc _ _ none) (by simp)
  have KU := u8_byte c l s p x _ (h.grown (World.grownBy_alloc W (.cells #[.int .i64 0, .int .i64 0, .int .i64 0] 34) none)) hr hk hp
  obtain ⟨y, hy⟩ : ∃ y, bt s p = y := ⟨_, rfl⟩
  rw [hy] at KU ⊢
  have KU := Lib.hid KU
  have KB := fun u => blank_calls y u
  have HF0 := Lib.hid hF0
  have HT0 := Lib.hid hT0
  obtain ⟨r, hrw⟩ : ∃ r, W.heap.size = r := ⟨_, rfl⟩
  have hrc : r ≠ c := by omega
  have hrl : r ≠ l := by omega
  have HRW := Lib.hid hrw
  have HNI : r ∉ [c, l] := by simp [hrc, hrl]
  have HC := Lib.hid hrc
  have HL := Lib.hid hrl
  clear h hr hF0 hT0 hcw hlw hrc hrl hy
  cases eB : blankB y
  · simp only [eB] at KB
    rw [if_neg (by decide)]
    have KBh := Lib.hid KB
    clear eB KB
    go_enter Tryz.func57, Tryz.ntmps57
    go_wp2_with fail
    rw [HRW.out] at HF0
    refine KU.out.mono ?_
    rintro e w1 ⟨rfl, R1, T1⟩
    have KM := Lib.hid (malformed_calls c l s p _ w1 R1)
    have HT1 := Lib.hid (HT0.out.trans T1)
    have HF1 := Lib.hid (HF0.out.turned T1 HNI)
    clear R1 T1 KU hrw
    go_wp2_with fail
    refine (KBh.out _).mono ?_
    rintro e w' ⟨rfl, rfl⟩
    go_wp2_with fail
    refine KM.out.mono ?_
    rintro e w4 ⟨rfl, R4, g4⟩
    have F9 : Fl r 0 0 0 w4 := HF1.out.turned (Tn.gb g4 (S := [c, l]) (by simp)) HNI
    have q0 := F9.c0
    have q1 := F9.c1
    have q2 := F9.c2
    have f0 := F9.free 0
    have f1 := F9.free 1
    have f2 := F9.free 2
    have HR9 := Lib.hid R4
    have HT9 := Lib.hid (HT1.out.trans (Tn.gb g4 (by simp)))
    clear R4 g4 KM HT1 HF1 F9
    go_wp2
    exact bodyPost_ret (v := .agg #[.int .i64 2, .int .i64 3, .int .i64 p]) (by simp only [results, Tryz.results57]; go_simp) rfl ⟨rfl, HR9.out.st3 HC.out HL.out, Tn.own3 HT9.out HRW.out⟩
  · simp only [eB] at KB
    rw [if_pos rfl]
    have KBh := Lib.hid KB
    clear eB KB
    go_enter Tryz.func57, Tryz.ntmps57
    go_wp2_with fail
    rw [HRW.out] at HF0
    refine KU.out.mono ?_
    rintro e w1 ⟨rfl, R1, T1⟩
    have F9 : Fl r 0 0 0 w1 := HF0.out.turned T1 HNI
    have q0 := F9.c0
    have q1 := F9.c1
    have q2 := F9.c2
    have f0 := F9.free 0
    have f1 := F9.free 1
    have f2 := F9.free 2
    have HR9 := Lib.hid R1
    have HT9 := Lib.hid (HT0.out.trans T1)
    clear R1 T1 KU F9 hrw
    go_wp2_with fail
    refine (KBh.out _).mono ?_
    rintro e w' ⟨rfl, rfl⟩
    go_wp2
    exact bodyPost_ret (v := okF) (by simp only [results, Tryz.results57, okF]; go_simp) rfl ⟨rfl, HR9.out.st3 HC.out HL.out, Tn.own3 HT9.out HRW.out⟩

theorem one_end (c l : Nat) (s : ByteArray) (p : Nat) (x : St) (W : World) (h : Rd c l s p x W) (hr : x.r = 0) (hk : x.st + 1 ≤ x.s) (hp : s.size ≤ p) :
    Calls Tryz.prog 57 #[.pointer (some ⟨c, 0, none⟩)] W fun e w' =>
      e = .returned (.agg #[.int .i64 1, .int .i64 3, .int .i64 s.size]) ∧ Rd c l s p (stp x 1) w' ∧ Tn W w' [c, l] := by
  have hcw := h.clt
  have hlw := h.llt
  have hF0 := Fl.new W
  have hT0 : Tn W (W.alloc (.cells #[.int .i64 0, .int .i64 0, .int .i64 0] 34)) [c, l] := Tn.gb (World.grownBy_alloc _ _ none) (by simp)
  have KU := u8_over c l s p x _ (h.grown (World.grownBy_alloc W (.cells #[.int .i64 0, .int .i64 0, .int .i64 0] 34) none)) hr hk hp
  have KU := Lib.hid KU
  have HF0 := Lib.hid hF0
  have HT0 := Lib.hid hT0
  have HR := Lib.hid hr
  obtain ⟨r, hrw⟩ : ∃ r, W.heap.size = r := ⟨_, rfl⟩
  have hrc : r ≠ c := by omega
  have hrl : r ≠ l := by omega
  have HRW := Lib.hid hrw
  have HNI : r ∉ [c, l] := by simp [hrc, hrl]
  have HC := Lib.hid hrc
  have HL := Lib.hid hrl
  clear h hr hF0 hT0 hcw hlw hrc hrl
  go_enter Tryz.func57, Tryz.ntmps57
  go_wp2_with fail
  rw [HRW.out] at HF0
  refine KU.out.mono ?_
  rintro e w1 ⟨rfl, R1, T1⟩
  have KF := Lib.hid (fault_end c l s p _ 3 w1 R1 HR.out)
  have HT1 := Lib.hid (HT0.out.trans T1)
  have HF1 := Lib.hid (HF0.out.turned T1 HNI)
  clear R1 T1 KU hrw
  go_wp2_with fail
  refine KF.out.mono ?_
  rintro e w4 ⟨rfl, R4, g4⟩
  have F9 : Fl r 0 0 0 w4 := HF1.out.turned (Tn.gb g4 (S := [c, l]) (by simp)) HNI
  have q0 := F9.c0
  have q1 := F9.c1
  have q2 := F9.c2
  have f0 := F9.free 0
  have f1 := F9.free 1
  have f2 := F9.free 2
  have HR9 := Lib.hid R4
  have HT9 := Lib.hid (HT1.out.trans (Tn.gb g4 (by simp)))
  clear R4 g4 KF HT1 HF1 F9
  go_wp2
  exact bodyPost_ret (v := .agg #[.int .i64 1, .int .i64 3, .int .i64 s.size]) (by simp only [results, Tryz.results57]; go_simp) rfl ⟨rfl, HR9.out.st3 HC.out HL.out, Tn.own3 HT9.out HRW.out⟩

theorem one_spent (c l : Nat) (s : ByteArray) (p : Nat) (x : St) (W : World) (h : Rd c l s p x W) (hr : x.r = 0) (hk : x.s < x.st + 1) :
    Calls Tryz.prog 57 #[.pointer (some ⟨c, 0, none⟩)] W fun e w' =>
      e = .returned (noF p) ∧ Rd c l s p (spent x) w' ∧ Tn W w' [c, l] := by
  have hcw := h.clt
  have hlw := h.llt
  have hF0 := Fl.new W
  have hT0 : Tn W (W.alloc (.cells #[.int .i64 0, .int .i64 0, .int .i64 0] 34)) [c, l] := Tn.gb (World.grownBy_alloc _ _ none) (by simp)
  have KU := u8_spent c l s p x _ (h.grown (World.grownBy_alloc W (.cells #[.int .i64 0, .int .i64 0, .int .i64 0] 34) none)) hr hk
  have KU := Lib.hid KU
  have HF0 := Lib.hid hF0
  have HT0 := Lib.hid hT0
  obtain ⟨r, hrw⟩ : ∃ r, W.heap.size = r := ⟨_, rfl⟩
  have hrc : r ≠ c := by omega
  have hrl : r ≠ l := by omega
  have HRW := Lib.hid hrw
  have HNI : r ∉ [c, l] := by simp [hrc, hrl]
  have HC := Lib.hid hrc
  have HL := Lib.hid hrl
  clear h hr hF0 hT0 hcw hlw hrc hrl
  go_enter Tryz.func57, Tryz.ntmps57
  go_wp2_with fail
  rw [HRW.out] at HF0
  refine KU.out.mono ?_
  rintro e w1 ⟨rfl, R1, T1⟩
  have KF := Lib.hid (fault_spent c l s p _ 3 w1 R1)
  have HT1 := Lib.hid (HT0.out.trans T1)
  have HF1 := Lib.hid (HF0.out.turned T1 HNI)
  clear R1 T1 KU hrw
  go_wp2_with fail
  refine KF.out.mono ?_
  rintro e w4 ⟨rfl, R4, g4⟩
  have F9 : Fl r 0 0 0 w4 := HF1.out.turned (Tn.gb g4 (S := [c, l]) (by simp)) HNI
  have q0 := F9.c0
  have q1 := F9.c1
  have q2 := F9.c2
  have f0 := F9.free 0
  have f1 := F9.free 1
  have f2 := F9.free 2
  have HR9 := Lib.hid R4
  have HT9 := Lib.hid (HT1.out.trans (Tn.gb g4 (by simp)))
  clear R4 g4 KF HT1 HF1 F9
  go_wp2
  exact bodyPost_ret (v := noF p) (by simp only [results, Tryz.results57, noF]; go_simp) rfl ⟨rfl, HR9.out.st3 HC.out HL.out, Tn.own3 HT9.out HRW.out⟩

end Go.Proofs.YtcfdippcobkbaaaGreat.Tk

/- Layer 5's answers: numbers of bytes; and the chapter's example. -/
namespace Go.Proofs.YtcfdippcobkbaaaGreat.Sr
open Go.ChangeShapes Go.WideShapes Go.ChangeAt Go.RowKit
open Go.Proofs.YtcfdippcobkbaaaGreat.Le
set_option linter.unusedVariables false

set_option maxRecDepth 100000 in
set_option maxHeartbeats 2000000 in
theorem rbe_calls (z : ByteArray) (w : World) (hz : z.size ≤ 4) :
    Calls Tryz.prog 68 #[.string z] w fun e w' => e = .returned (.int .i64 (numV true z)) ∧ w = w' := by
  have HL := Lib.hid (Lib.size_eq z)
  go_enter Tryz.func68, Tryz.ntmps68
  go_wp2_with fail
  go_loopg [3, 4] z.size (fun q vv iv wr => ∃ k : Nat, k ≤ z.size ∧ q = z.size - k ∧ vv = .int .i64 (acc ((ordd true z.data.toList).take k)) ∧ iv = .int .i64 k ∧ w = wr)
  case atStart => exact ⟨0, by omega, rfl, rfl, rfl, rfl⟩
  case round =>
    obtain ⟨k, hk, rfl, rfl, rfl, rfl⟩ := hrel
    by_cases hlt : k < z.size
    · have hl := HL.out
      have st := acc_step true z.data.toList k (by omega)
      have lt := Nat.lt_of_lt_of_le (acc_lt ((ordd true z.data.toList).take k)) (Nat.pow_le_pow_right (by decide) (show _ ≤ 3 from by rw [List.length_take]; omega))
      obtain ⟨v, hv⟩ : ∃ v, acc ((ordd true z.data.toList).take k) = v := ⟨_, rfl⟩
      rw [hv] at st lt ⊢
      have hi : nxt true z.data.toList.length k = k := rfl
      simp only [hi] at st
      rw [byte_at' z k hlt (by omega)] at st
      have b255 := (z[k]'hlt).toNat_lt
      obtain ⟨c, hcz⟩ : ∃ c, (z[k]'hlt).toNat = c := ⟨_, rfl⟩
      rw [hcz] at st b255
      have ST := Lib.hid st
      clear st hv hi hl
      go_wp2
      go_roundg (z.size - (k + 1))
      case measure => omega
      case rel => exact ⟨k + 1, by omega, rfl, by rw [ST.out]; go_num, by go_num, rfl⟩
    · have hl := HL.out
      have hkn : k = z.size := by omega
      have e1 : (ordd true z.data.toList).take k = ordd true z.data.toList := List.take_of_length_le (by rw [ordd_len]; omega)
      rw [e1]
      clear e1 hl
      go_wp2
      go_ret
      exact ⟨rfl, rfl⟩

theorem num_lt (o : Bool) (z : ByteArray) (h : z.size ≤ 4) : numV o z < 4294967296 := acc_lt4 _ (by rw [ordd_len, ← Lib.size_eq]; exact h)

/-- A ledger of m steps of which n are done; nothing was refused. -/
def LW (m n : Int) : St := { w := 0, h := 0, b := 0, s := m, by_ := 0, pk := 0, st := n, r := 0, a := 0 }
theorem LW_ok {m n : Int} (hm : m ≤ 9223372036854775807) (n0 : 0 ≤ n) (nm : n ≤ m) : (LW m n).Ok :=
  ⟨by show (0 : Int) ≤ 0; decide, by show (0 : Int) ≤ _; decide, by show (0 : Int) ≤ 0; decide, by show (0 : Int) ≤ _; decide, by show (0 : Int) ≤ _; decide, hm, Int.le_refl _, Int.le_refl _, Int.le_refl _, n0, nm, by show (0 : Int) ≤ 0; decide, by show (0 : Int) ≤ 3; decide⟩
theorem LW_work {m n : Int} (h : n < m) : (LW m n).work 1 = (LW m (n + 1), true) := by
  unfold St.work
  rw [if_neg (by simp [LW]), if_neg (by simp only [LW]; omega)]
  simp [LW]
theorem LW_new {m : Int} (h : 0 ≤ m) : St.new 0 0 0 m = LW m 0 := by
  have e : pos m = m := by unfold pos; rw [if_neg (by omega)]
  have e0 : pos 0 = 0 := rfl
  simp [St.new, LW, e, e0]
theorem LW_rd {m k : Int} {p t : Nat} {n : Int} (h : k < m) (h0 : 0 ≤ n) (h1 : n ≤ (t : Int) - p) : rdB (LW m k) p t n = true := by
  unfold rdB
  rw [LW_work h]
  simp [canB, h0, h1]
theorem LW_out {m k : Int} {p t : Nat} {n : Int} (h : k < m) (h1 : n < 0 ∨ (t : Int) - p < n) : rdB (LW m k) p t n = false := by
  unfold rdB
  rw [LW_work h]
  rcases h1 with h1 | h1
  · simp [canB, show ¬ 0 ≤ n from by omega]
  · simp [canB, show ¬ n ≤ (t : Int) - p from by omega]

/-- A new ledger of m steps. -/
theorem wnew_calls (m : Int) (h0 : 0 ≤ m) (w : World) :
    Calls Tryz.prog 34 #[.agg #[.int .i64 0, .int .i64 0, .int .i64 0, .int .i64 m]] w
      fun e w' => ∃ b, e = .returned (.pointer (some ⟨b, 0, none⟩)) ∧ Led b (LW m 0).ls w' ∧ w.grownBy w' none ∧ w.heap.size ≤ b := by
  have h := new_calls 0 0 0 m w
  rwa [LW_new h0] at h

end Go.Proofs.YtcfdippcobkbaaaGreat.Sr

/- The laws of layer 11: fresh, same, the chapter's example. -/
namespace Go.Proofs.YtcfdippcobkbaaaGreat.Tk
open Go.ChangeShapes Go.WideShapes Go.ChangeAt Go.RowKit
open Go.Proofs.YtcfdippcobkbaaaGreat.Le Go.Proofs.YtcfdippcobkbaaaGreat.Sr
set_option linter.unusedVariables false

/-- The chapter's example. -/
def exS : ByteArray := ⟨#[32, 35, 120, 10, 49, 50, 32]⟩
theorem exV : gotV exS 0 = ⟨12, 4, 6, 0, 0⟩ := by
  have e3 : remEnd exS 3 = 3 := remEnd_stop (by decide)
  have e2 : remEnd exS 2 = 3 := (remEnd_on (by decide) (by decide) (by decide)).trans e3
  have e1 : remEnd exS 1 = 3 := (remEnd_on (by decide) (by decide) (by decide)).trans e2
  have n1 : remNext exS 1 = 4 := by
    unfold remNext
    rw [e1, if_pos (by decide)]
  have o4 : overV exS 4 = 4 := overV_stop (by decide) (by decide) (by decide)
  have o1 : overV exS 1 = 4 := by rw [overV_rem (by decide) (by decide), n1, o4]
  have o0 : overV exS 0 = 4 := (overV_blank (by decide) (by decide)).trans o1
  have v6 : Tk.numV exS 6 12 = (12, 6) := numV_stop (by decide)
  have v5 : Tk.numV exS 5 1 = (12, 6) := (numV_on (by decide) (by decide) (by decide)).trans v6
  have v4 : Tk.numV exS 4 0 = (12, 6) := (numV_on (by decide) (by decide) (by decide)).trans v5
  exact gotV_yes' o0 (by decide) v4 (by decide)

end Go.Proofs.YtcfdippcobkbaaaGreat.Tk

/- Layer 12: a head of a text, as plain functions. -/
namespace Go.Proofs.YtcfdippcobkbaaaGreat.Ph
open Go.Proofs.YtcfdippcobkbaaaGreat.Tk
set_option linter.unusedVariables false

/-- What the numbers of a head are: a fault's kind and place, the place behind, the numbers, the readings. -/
structure NR where
  f : Nat
  p : Nat
  a : Nat
  w : Nat
  h : Nat
  m : Nat
  n : Nat

/-- r + 1 numbers are left (r = 2: the width, 1: the height, 0: the greatest sample). -/
def nums (s : ByteArray) (k : Nat) : Nat → NR → NR
  | 0, z => z
  | r + 1, z =>
    if r = 0 ∧ (k = 1 ∨ k = 4) then z
    else if (gotV s z.a).kind ≠ 0 then ⟨(gotV s z.a).kind, (gotV s z.a).place, 0, 0, 0, 0, z.n + numN s z.a⟩
    else if (gotV s z.a).v = 0 ∨ (r = 0 ∧ 65535 < (gotV s z.a).v) then ⟨2, (gotV s z.a).from_, 0, 0, 0, 0, z.n + numN s z.a⟩
    else if 0 < r ∧ 16384 < (gotV s z.a).v then ⟨3, (gotV s z.a).from_, 0, 0, 0, 0, z.n + numN s z.a⟩
    else nums s k r ⟨0, 0, (gotV s z.a).next, if r = 2 then (gotV s z.a).v else z.w, if r = 1 then (gotV s z.a).v else z.h, if r = 0 then (gotV s z.a).v else z.m, z.n + numN s z.a⟩

section
variable {s : ByteArray} {k r : Nat} {z : NR}
theorem nums_bit (h : k = 1 ∨ k = 4) : nums s k 1 z = z := by
  show (if _ then _ else _) = _
  rw [if_pos ⟨rfl, h⟩]
theorem nums_fault {kd pl : Nat} (h : ¬ (r = 0 ∧ (k = 1 ∨ k = 4))) (g : gotV s z.a = ⟨0, 0, 0, kd, pl⟩) (h0 : kd ≠ 0) : nums s k (r + 1) z = ⟨kd, pl, 0, 0, 0, 0, z.n + numN s z.a⟩ := by
  show (if _ then _ else _) = _
  rw [if_neg h, g, if_pos h0]
theorem nums_bad {v f j : Nat} (h : ¬ (r = 0 ∧ (k = 1 ∨ k = 4))) (g : gotV s z.a = ⟨v, f, j, 0, 0⟩) (h0 : v = 0 ∨ (r = 0 ∧ 65535 < v)) : nums s k (r + 1) z = ⟨2, f, 0, 0, 0, 0, z.n + numN s z.a⟩ := by
  show (if _ then _ else _) = _
  rw [if_neg h, g, if_neg (fun h' => h' rfl), if_pos h0]
theorem nums_big {v f j : Nat} (h : ¬ (r = 0 ∧ (k = 1 ∨ k = 4))) (g : gotV s z.a = ⟨v, f, j, 0, 0⟩) (h0 : ¬ (v = 0 ∨ (r = 0 ∧ 65535 < v))) (h1 : 0 < r ∧ 16384 < v) : nums s k (r + 1) z = ⟨3, f, 0, 0, 0, 0, z.n + numN s z.a⟩ := by
  show (if _ then _ else _) = _
  rw [if_neg h, g, if_neg (fun h' => h' rfl), if_neg h0, if_pos h1]
theorem nums_on {v f j : Nat} (h : ¬ (r = 0 ∧ (k = 1 ∨ k = 4))) (g : gotV s z.a = ⟨v, f, j, 0, 0⟩) (h0 : ¬ (v = 0 ∨ (r = 0 ∧ 65535 < v))) (h1 : ¬ (0 < r ∧ 16384 < v)) :
    nums s k (r + 1) z = nums s k r ⟨0, 0, j, if r = 2 then v else z.w, if r = 1 then v else z.h, if r = 0 then v else z.m, z.n + numN s z.a⟩ := by
  show (if _ then _ else _) = _
  rw [if_neg h, g, if_neg (fun h' => h' rfl), if_neg h0, if_neg h1]
end

/-- What holds of the numbers of a head. -/
theorem nums_gd (s : ByteArray) (k : Nat) : ∀ r z, z.f = 0 → z.a ≤ s.size → (nums s k r z).n ≤ z.n + (s.size - z.a) + 2 * r ∧ z.n ≤ (nums s k r z).n ∧
    ((nums s k r z).f = 0 → z.a ≤ (nums s k r z).a ∧ (nums s k r z).a ≤ s.size ∧ (nums s k r z).n ≤ z.n + ((nums s k r z).a - z.a) + 2 * r) ∧ ((nums s k r z).f ≠ 0 → (nums s k r z).f < 4 ∧ (nums s k r z).p ≤ s.size)
  | 0, z, hf, ha => by
    show z.n ≤ _ ∧ z.n ≤ z.n ∧ _ ∧ _
    refine ⟨by omega, Nat.le_refl _, fun _ => ⟨Nat.le_refl _, ha, ?_⟩, fun h => absurd hf h⟩
    show z.n ≤ z.n + _ + _
    omega
  | r + 1, z, hf, ha => by
    by_cases hb : r = 0 ∧ (k = 1 ∨ k = 4)
    · obtain ⟨rfl, hk⟩ := hb
      rw [nums_bit hk]
      exact ⟨by omega, Nat.le_refl _, fun _ => ⟨Nat.le_refl _, ha, by omega⟩, fun h => absurd hf h⟩
    · rcases gotV_gd s z.a ha with ⟨kd, pl, eg, h0, h3, hp, hN⟩ | ⟨v, f, j, eg, h1, h2, h3, h4, hN⟩
      · rw [nums_fault hb eg h0]
        exact ⟨by show z.n + _ ≤ _; omega, by show z.n ≤ z.n + _; omega, fun h => absurd h h0, fun _ => ⟨by show kd < 4; omega, hp⟩⟩
      · by_cases hv : v = 0 ∨ (r = 0 ∧ 65535 < v)
        · rw [nums_bad hb eg hv]
          exact ⟨by show z.n + _ ≤ _; omega, by show z.n ≤ z.n + _; omega, fun h => absurd (a := (2 : Nat) = 0) h (by decide), fun _ => ⟨by show 2 < 4; decide, by show f ≤ _; omega⟩⟩
        · by_cases hg : 0 < r ∧ 16384 < v
          · rw [nums_big hb eg hv hg]
            exact ⟨by show z.n + _ ≤ _; omega, by show z.n ≤ z.n + _; omega, fun h => absurd (a := (3 : Nat) = 0) h (by decide), fun _ => ⟨by show 3 < 4; decide, by show f ≤ _; omega⟩⟩
          · rw [nums_on hb eg hv hg]
            have ih := nums_gd s k r ⟨0, 0, j, if r = 2 then v else z.w, if r = 1 then v else z.h, if r = 0 then v else z.m, z.n + numN s z.a⟩ rfl h3
            obtain ⟨i1, i2, i3, i4⟩ := ih
            have i1' : _ ≤ z.n + numN s z.a + (s.size - j) + 2 * r := i1
            have i2' : z.n + numN s z.a ≤ _ := i2
            refine ⟨by omega, by omega, fun h => ?_, i4⟩
            obtain ⟨j1, j2, j3⟩ := i3 h
            have j1' : j ≤ _ := j1
            have j3' : _ ≤ z.n + numN s z.a + (_ - j) + 2 * r := j3
            exact ⟨by omega, j2, by omega⟩

/-- A head: kind, width, height, greatest sample, the place behind; a fault's kind and place. -/
structure Hd where
  k : Nat
  w : Nat
  h : Nat
  m : Nat
  a : Nat
  f : Nat
  p : Nat
def endV (s : ByteArray) (k : Nat) (R : NR) : Hd :=
  if R.f ≠ 0 then ⟨0, 0, 0, 0, 0, R.f, R.p⟩
  else if 4 ≤ k then (if s.size ≤ R.a then ⟨0, 0, 0, 0, 0, 1, s.size⟩ else if blankB (bt s R.a) = true then ⟨k, R.w, R.h, R.m, R.a + 1, 0, 0⟩ else ⟨0, 0, 0, 0, 0, 2, R.a⟩)
  else ⟨k, R.w, R.h, R.m, R.a, 0, 0⟩
def endN (k : Nat) (R : NR) : Nat := if R.f ≠ 0 then R.n else if 4 ≤ k then R.n + 1 else R.n
theorem endV_fault {s : ByteArray} {k : Nat} {R : NR} (h : R.f ≠ 0) : endV s k R = ⟨0, 0, 0, 0, 0, R.f, R.p⟩ := by
  unfold endV
  rw [if_pos h]
theorem endV_text {s : ByteArray} {k : Nat} {R : NR} (h : R.f = 0) (h1 : ¬ 4 ≤ k) : endV s k R = ⟨k, R.w, R.h, R.m, R.a, 0, 0⟩ := by
  unfold endV
  rw [if_neg (fun h' => h' h), if_neg h1]
theorem endV_short {s : ByteArray} {k : Nat} {R : NR} (h : R.f = 0) (h1 : 4 ≤ k) (h2 : s.size ≤ R.a) : endV s k R = ⟨0, 0, 0, 0, 0, 1, s.size⟩ := by
  unfold endV
  rw [if_neg (fun h' => h' h), if_pos h1, if_pos h2]
theorem endV_yes {s : ByteArray} {k : Nat} {R : NR} (h : R.f = 0) (h1 : 4 ≤ k) (h2 : R.a < s.size) (h3 : blankB (bt s R.a) = true) : endV s k R = ⟨k, R.w, R.h, R.m, R.a + 1, 0, 0⟩ := by
  unfold endV
  rw [if_neg (fun h' => h' h), if_pos h1, if_neg (by omega), if_pos h3]
theorem endV_bad {s : ByteArray} {k : Nat} {R : NR} (h : R.f = 0) (h1 : 4 ≤ k) (h2 : R.a < s.size) (h3 : blankB (bt s R.a) = false) : endV s k R = ⟨0, 0, 0, 0, 0, 2, R.a⟩ := by
  unfold endV
  rw [if_neg (fun h' => h' h), if_pos h1, if_neg (by omega), if_neg (by rw [h3]; decide)]

def nr0 : NR := ⟨0, 0, 2, 0, 0, 1, 2⟩
def readV (s : ByteArray) : Hd :=
  if s.size < 1 then ⟨0, 0, 0, 0, 0, 1, 0⟩ else if bt s 0 ≠ 80 then ⟨0, 0, 0, 0, 0, 2, 0⟩
  else if s.size < 2 then ⟨0, 0, 0, 0, 0, 1, 1⟩ else if ¬ (49 ≤ bt s 1 ∧ bt s 1 ≤ 54) then ⟨0, 0, 0, 0, 0, 2, 1⟩
  else endV s (bt s 1 - 48) (nums s (bt s 1 - 48) 3 nr0)
def readN (s : ByteArray) : Nat :=
  if s.size < 1 then 1 else if bt s 0 ≠ 80 then 1 else if s.size < 2 then 2 else if ¬ (49 ≤ bt s 1 ∧ bt s 1 ≤ 54) then 2
  else endN (bt s 1 - 48) (nums s (bt s 1 - 48) 3 nr0)
section
variable {s : ByteArray}
theorem readV_0 (h : s.size < 1) : readV s = ⟨0, 0, 0, 0, 0, 1, 0⟩ := by
  unfold readV
  rw [if_pos h]
theorem readV_1 (h : ¬ s.size < 1) (h1 : bt s 0 ≠ 80) : readV s = ⟨0, 0, 0, 0, 0, 2, 0⟩ := by
  unfold readV
  rw [if_neg h, if_pos h1]
theorem readV_2 (h : ¬ s.size < 1) (h1 : bt s 0 = 80) (h2 : s.size < 2) : readV s = ⟨0, 0, 0, 0, 0, 1, 1⟩ := by
  unfold readV
  rw [if_neg h, if_neg (fun h' => h' h1), if_pos h2]
theorem readV_3 (h : ¬ s.size < 2) (h1 : bt s 0 = 80) (h2 : ¬ (49 ≤ bt s 1 ∧ bt s 1 ≤ 54)) : readV s = ⟨0, 0, 0, 0, 0, 2, 1⟩ := by
  unfold readV
  rw [if_neg (by omega), if_neg (fun h' => h' h1), if_neg h, if_pos h2]
theorem readV_4 {k : Nat} (h : ¬ s.size < 2) (h1 : bt s 0 = 80) (h2 : 1 ≤ k ∧ k ≤ 6) (h3 : bt s 1 = k + 48) : readV s = endV s k (nums s k 3 nr0) := by
  unfold readV
  rw [if_neg (by omega), if_neg (fun h' => h' h1), if_neg h, if_neg (fun h' => h' (by omega)), show bt s 1 - 48 = k from by omega]
theorem readN_0 (h : s.size < 1) : readN s = 1 := by
  unfold readN
  rw [if_pos h]
theorem readN_1 (h : ¬ s.size < 1) (h1 : bt s 0 ≠ 80) : readN s = 1 := by
  unfold readN
  rw [if_neg h, if_pos h1]
theorem readN_2 (h : ¬ s.size < 1) (h1 : bt s 0 = 80) (h2 : s.size < 2) : readN s = 2 := by
  unfold readN
  rw [if_neg h, if_neg (fun h' => h' h1), if_pos h2]
theorem readN_3 (h : ¬ s.size < 2) (h1 : bt s 0 = 80) (h2 : ¬ (49 ≤ bt s 1 ∧ bt s 1 ≤ 54)) : readN s = 2 := by
  unfold readN
  rw [if_neg (by omega), if_neg (fun h' => h' h1), if_neg h, if_pos h2]
theorem readN_4 {k : Nat} (h : ¬ s.size < 2) (h1 : bt s 0 = 80) (h2 : 1 ≤ k ∧ k ≤ 6) (h3 : bt s 1 = k + 48) : readN s = endN k (nums s k 3 nr0) := by
  unfold readN
  rw [if_neg (by omega), if_neg (fun h' => h' h1), if_neg h, if_neg (fun h' => h' (by omega)), show bt s 1 - 48 = k from by omega]
end
/-- A head takes no more readings than bytes, and nine. -/
theorem readN_le (s : ByteArray) : readN s ≤ s.size + 9 := by
  by_cases h : s.size < 2
  · by_cases h0 : s.size < 1
    · rw [readN_0 h0]
      omega
    · by_cases h1 : bt s 0 = 80
      · rw [readN_2 h0 h1 h]
        omega
      · rw [readN_1 h0 h1]
        omega
  · by_cases h1 : bt s 0 = 80
    · by_cases h2 : 49 ≤ bt s 1 ∧ bt s 1 ≤ 54
      · rw [readN_4 (k := bt s 1 - 48) h h1 (by omega) (by omega)]
        have hg := (nums_gd s (bt s 1 - 48) 3 nr0 rfl (by show 2 ≤ _; omega)).1
        have hg' : _ ≤ 2 + (s.size - 2) + 2 * 3 := hg
        unfold endN
        repeat' split
        all_goals omega
      · rw [readN_3 h h1 h2]
        omega
    · rw [readN_1 (by omega) h1]
      omega

end Go.Proofs.YtcfdippcobkbaaaGreat.Ph

/- Package bits: a reader in memory; a byte is taken; parts of a byte. -/
namespace Go.Proofs.YtcfdippcobkbaaaGreat.Bi
open Go.ChangeShapes Go.WideShapes Go.ChangeAt Go.RowKit
open Go.Proofs.YtcfdippcobkbaaaGreat.Le Go.Proofs.YtcfdippcobkbaaaGreat.Sr
set_option linter.unusedVariables false

/-- The two orders' functions. -/
def cutF (low : Bool) : Value := .func (.func (if low then 126 else 128)) #[] #[]
def joinF (low : Bool) : Value := .func (.func (if low then 127 else 129)) #[] #[]
/-- The cells of a reader of the source c: the byte that was taken last, how many of its bits are left. -/
def BC (c : Nat) (last left : Int) (low : Bool) : Array Value := #[.pointer (some ⟨c, 0, none⟩), .int .i64 last, .int .i64 left, cutF low, joinF low]

/-- Block r is a reader of the source c. -/
structure Bt (r c : Nat) (last left : Int) (low : Bool) (w : World) : Prop where
  blk : w.heap[r]? = some (.cells (BC c last left low) 186 (0, 0))
  rc : r ≠ c

section
variable {r c : Nat} {last left : Int} {low : Bool} {w w' : World}
theorem Bt.lt (h : Bt r c last left low w) : r < w.heap.size := blk_lt h.blk
theorem Bt.grown {k : Option Nat} (h : Bt r c last left low w) (g : w.grownBy w' k) (h1 : some r ≠ k) : Bt r c last left low w' := ⟨(g.block r h.lt h1).trans h.blk, h.rc⟩
theorem Bt.turned {S : List Nat} (h : Bt r c last left low w) (g : Tn w w' S) (h1 : r ∉ S) : Bt r c last left low w' := ⟨(g.block r h.lt h1).trans h.blk, h.rc⟩
theorem Bt.c0 (h : Bt r c last left low w) : w.cell? ⟨r, 0, none⟩ = some (.pointer (some ⟨c, 0, none⟩)) := blk_cell h.blk 0
theorem Bt.c1 (h : Bt r c last left low w) : w.cell? ⟨r, 1, none⟩ = some (.int .i64 last) := blk_cell h.blk 1
theorem Bt.c2 (h : Bt r c last left low w) : w.cell? ⟨r, 2, none⟩ = some (.int .i64 left) := blk_cell h.blk 2
theorem Bt.c3 (h : Bt r c last left low w) : w.cell? ⟨r, 3, none⟩ = some (cutF low) := blk_cell h.blk 3
theorem Bt.c4 (h : Bt r c last left low w) : w.cell? ⟨r, 4, none⟩ = some (joinF low) := blk_cell h.blk 4
theorem Bt.free (h : Bt r c last left low w) (o : Nat) : w.frozen? ⟨r, o, none⟩ = false := blk_free h.blk o
theorem Bt.set1 (h : Bt r c last left low w) (v : Int) : Bt r c v left low (w.setCell ⟨r, 1, none⟩ (.int .i64 v)) := ⟨blk_set h.blk 1 (.int .i64 v), h.rc⟩
theorem Bt.set2 (h : Bt r c last left low w) (v : Int) : Bt r c last v low (w.setCell ⟨r, 2, none⟩ (.int .i64 v)) := ⟨blk_set h.blk 2 (.int .i64 v), h.rc⟩
end

theorem align_bits (r c : Nat) (last left : Int) (low : Bool) (w : World) (h : Bt r c last left low w) :
    Calls Tryz.prog 99 #[.pointer (some ⟨r, 0, none⟩)] w fun e w' => e = .returned (.int .i64 left) ∧ Bt r c last 0 low w' ∧ w.grownBy w' (some r) := by
  have d := h.c2
  have z := h.free 2
  have H := Lib.hid h
  clear h
  go_enter Tryz.func99, Tryz.ntmps99
  go_wp2
  go_ret
  exact ⟨rfl, H.out.set2 0, gb_set _ _ _ _⟩

theorem bnew_nil (low : Bool) (w : World) :
    Calls Tryz.prog 97 #[.pointer none, .bool low] w fun e w' => e = .returned (.tuple #[.pointer none, .int .i64 1]) ∧ w = w' := by
  go_enter Tryz.func97, Tryz.ntmps97
  go_wp2
  go_ret2
  exact ⟨rfl, rfl⟩

theorem bnew_calls (c : Nat) (low : Bool) (w : World) :
    Calls Tryz.prog 97 #[.pointer (some ⟨c, 0, none⟩), .bool low] w
      fun e w' => ∃ r, e = .returned (.tuple #[.pointer (some ⟨r, 0, none⟩), .int .i64 0]) ∧ (c < w.heap.size → Bt r c 0 0 low w') ∧ w.grownBy w' none ∧ w.heap.size ≤ r := by
  cases low with
  | false =>
    go_enter Tryz.func97, Tryz.ntmps97
    go_wp2
    go_ret2
    exact ⟨w.heap.size, rfl, fun hc => ⟨blk_new w (BC c 0 0 false) 186, by omega⟩, World.grownBy_alloc _ _ _, Nat.le_refl _⟩
  | true =>
    go_enter Tryz.func97, Tryz.ntmps97
    go_wp2
    go_ret2
    exact ⟨w.heap.size, rfl, fun hc => ⟨blk_new w (BC c 0 0 true) 186, by omega⟩, World.grownBy_alloc _ _ _, Nat.le_refl _⟩

theorem fill_some (r c : Nat) (last left : Int) (low : Bool) (w : World) (h : Bt r c last left low w) (hl : 0 < left) :
    Calls Tryz.prog 130 #[.pointer (some ⟨r, 0, none⟩)] w fun e w' => e = .returned (.bool true) ∧ w = w' := by
  have d := h.c2
  clear h
  go_enter Tryz.func130, Tryz.ntmps130
  go_wp2
  go_ret
  exact ⟨rfl, rfl⟩

set_option maxRecDepth 100000 in
theorem fill_no (r c l : Nat) (s : ByteArray) (p f t : Nat) (x : St) (last : Int) (low : Bool) (w : World) (h : Bt r c last 0 low w) (hs : So c l s p f t w) (hl : Led l x.ls w) (ok : x.Ok) (rl : r ≠ l) (hn : rdB x p t 1 = false) :
    Calls Tryz.prog 130 #[.pointer (some ⟨r, 0, none⟩)] w
      fun e w' => e = .returned (.bool false) ∧ (Bt r c last 0 low w' ∧ So c l s p f t w' ∧ Led l (x.work 1).1.ls w') ∧ w.grownBy w' (some l) := by
  have d0 := h.c0
  have d2 := h.c2
  have K := Lib.hid (u8_no c l s p f t x w hs hl ok hn)
  have H := Lib.hid h
  clear h hs hl ok hn
  go_enter Tryz.func130, Tryz.ntmps130
  go_wp2_with fail
  refine K.out.mono ?_
  rintro e w1 ⟨rfl, S, g⟩
  have HS := Lib.hid S
  have HG := Lib.hid g
  clear S g
  go_wp2
  go_ret
  exact ⟨rfl, ⟨H.out.grown HG.out (by simpa using rl), HS.out⟩, HG.out⟩

set_option maxRecDepth 100000 in
theorem fill_yes (r c l : Nat) (s : ByteArray) (p f t : Nat) (x : St) (last : Int) (low : Bool) (w : World) (h : Bt r c last 0 low w) (hs : So c l s p f t w) (hl : Led l x.ls w) (ok : x.Ok) (rl : r ≠ l) (hn : rdB x p t 1 = true) (hp : p < s.size) :
    Calls Tryz.prog 130 #[.pointer (some ⟨r, 0, none⟩)] w
      fun e w' => e = .returned (.bool true) ∧ (Bt r c (s[p].toNat : Int) 8 low w' ∧ So c l s (p + 1) f t w' ∧ Led l (x.work 1).1.ls w') ∧ Tn w w' [r, c, l] := by
  have d0 := h.c0
  have d2 := h.c2
  have K := u8_yes c l s p f t x w hs hl ok hn
  have e1 : (numV false (s.extract p (p + 1)) : Int) = (s[p].toNat : Int) := by
    have e : (s.extract p (p + 1)).data.toList = [s[p]] := by
      rw [Lib.extract_data, show p + 1 - p = 1 from by omega, List.drop_eq_getElem_cons (by rw [← Lib.size_eq]; exact hp), byte_at' s p hp]
      rfl
    unfold numV
    rw [e]
    simp [ordd, acc]
  rw [e1] at K
  obtain ⟨V, hV⟩ : ∃ V : Int, (s[p].toNat : Int) = V := ⟨_, rfl⟩
  rw [hV] at K ⊢
  have hK := Lib.hid K
  have H := Lib.hid h
  have rc := h.rc
  clear K h hs hl ok hn e1 hV
  go_enter Tryz.func130, Tryz.ntmps130
  go_wp2_with fail
  refine hK.out.mono ?_
  rintro e w1 ⟨rfl, S, g⟩
  have B1 := H.out.turned g (by simp; exact ⟨rc, rl⟩)
  have b1 := B1.c1
  have b2 := B1.c2
  have z1 := B1.free 1
  have z2 := B1.free 2
  have HB := Lib.hid B1
  have HS := Lib.hid S
  have HG := Lib.hid g
  clear S g B1
  go_wp2_with fail
  try go_region
  all_goals
    go_wp2
    go_ret
    have TT : Tn w1 ((w1.setCell ⟨r, 1, none⟩ (.int .i64 V)).setCell ⟨r, 2, none⟩ (.int .i64 8)) [r] := ((Tn.refl w1 [r]).st (by simp)).st (by simp)
    refine ⟨rfl, ⟨(HB.out.set1 V).set2 8, HS.out.1.turned TT (by simpa using rc.symm), HS.out.2.turned TT (by simpa using rl.symm)⟩, ?_⟩
    exact (HG.out.mono (by simp)).trans (TT.mono (by simp))

end Go.Proofs.YtcfdippcobkbaaaGreat.Bi

/- Package bits: parts of a byte, and how they are put together. -/
namespace Go.Proofs.YtcfdippcobkbaaaGreat.Bi
open Go.ChangeShapes Go.WideShapes Go.ChangeAt Go.RowKit
open Go.Proofs.YtcfdippcobkbaaaGreat.Le Go.Proofs.YtcfdippcobkbaaaGreat.Sr
set_option linter.unusedVariables false

theorem and_low : ∀ (n : Fin 9) (v : Fin 256), bits .and .i64 (v.1 : Int) ((2 : Int) ^ n.1 - 1) = ((v.1 % 2 ^ n.1 : Nat) : Int) := by decide +kernel

set_option maxRecDepth 100000 in
theorem lowest_calls (v n : Nat) (w : World) (hv : v < 256) (hn : n ≤ 8) :
    Calls Tryz.prog 143 #[.int .i64 v, .int .i64 n] w fun e w' => e = .returned (.int .i64 ((v % 2 ^ n : Nat) : Int)) ∧ w = w' := by
  obtain rfl | rfl | rfl | rfl | rfl | rfl | rfl | rfl | rfl : n = 0 ∨ n = 1 ∨ n = 2 ∨ n = 3 ∨ n = 4 ∨ n = 5 ∨ n = 6 ∨ n = 7 ∨ n = 8 := by omega
  · have ha : bits .and .i64 (v : Int) 0 = ((v % 1 : Nat) : Int) := and_low ⟨0, by decide⟩ ⟨v, hv⟩
    obtain ⟨V, hV⟩ : ∃ V : Int, ((v % 1 : Nat) : Int) = V := ⟨_, rfl⟩
    rw [hV] at ha
    rw [show ((v % 2 ^ 0 : Nat) : Int) = V from hV]
    clear hV
    go_enter Tryz.func143, Tryz.ntmps143
    go_wp2
    go_ret
    exact ⟨rfl, rfl⟩
  · have ha : bits .and .i64 (v : Int) 1 = ((v % 2 : Nat) : Int) := and_low ⟨1, by decide⟩ ⟨v, hv⟩
    obtain ⟨V, hV⟩ : ∃ V : Int, ((v % 2 : Nat) : Int) = V := ⟨_, rfl⟩
    rw [hV] at ha
    rw [show ((v % 2 ^ 1 : Nat) : Int) = V from hV]
    clear hV
    go_enter Tryz.func143, Tryz.ntmps143
    go_wp2
    go_ret
    exact ⟨rfl, rfl⟩
  · have ha : bits .and .i64 (v : Int) 3 = ((v % 4 : Nat) : Int) := and_low ⟨2, by decide⟩ ⟨v, hv⟩
    obtain ⟨V, hV⟩ : ∃ V : Int, ((v % 4 : Nat) : Int) = V := ⟨_, rfl⟩
    rw [hV] at ha
    rw [show ((v % 2 ^ 2 : Nat) : Int) = V from hV]
    clear hV
    go_enter Tryz.func143, Tryz.ntmps143
    go_wp2
    go_ret
    exact ⟨rfl, rfl⟩
  · have ha : bits .and .i64 (v : Int) 7 = ((v % 8 : Nat) : Int) := and_low ⟨3, by decide⟩ ⟨v, hv⟩
    obtain ⟨V, hV⟩ : ∃ V : Int, ((v % 8 : Nat) : Int) = V := ⟨_, rfl⟩
    rw [hV] at ha
    rw [show ((v % 2 ^ 3 : Nat) : Int) = V from hV]
    clear hV
    go_enter Tryz.func143, Tryz.ntmps143
    go_wp2
    go_ret
    exact ⟨rfl, rfl⟩
  · have ha : bits .and .i64 (v : Int) 15 = ((v % 16 : Nat) : Int) := and_low ⟨4, by decide⟩ ⟨v, hv⟩
    obtain ⟨V, hV⟩ : ∃ V : Int, ((v % 16 : Nat) : Int) = V := ⟨_, rfl⟩
    rw [hV] at ha
    rw [show ((v % 2 ^ 4 : Nat) : Int) = V from hV]
    clear hV
    go_enter Tryz.func143, Tryz.ntmps143
    go_wp2
    go_ret
    exact ⟨rfl, rfl⟩
  · have ha : bits .and .i64 (v : Int) 31 = ((v % 32 : Nat) : Int) := and_low ⟨5, by decide⟩ ⟨v, hv⟩
    obtain ⟨V, hV⟩ : ∃ V : Int, ((v % 32 : Nat) : Int) = V := ⟨_, rfl⟩
    rw [hV] at ha
    rw [show ((v % 2 ^ 5 : Nat) : Int) = V from hV]
    clear hV
    go_enter Tryz.func143, Tryz.ntmps143
    go_wp2
    go_ret
    exact ⟨rfl, rfl⟩
  · have ha : bits .and .i64 (v : Int) 63 = ((v % 64 : Nat) : Int) := and_low ⟨6, by decide⟩ ⟨v, hv⟩
    obtain ⟨V, hV⟩ : ∃ V : Int, ((v % 64 : Nat) : Int) = V := ⟨_, rfl⟩
    rw [hV] at ha
    rw [show ((v % 2 ^ 6 : Nat) : Int) = V from hV]
    clear hV
    go_enter Tryz.func143, Tryz.ntmps143
    go_wp2
    go_ret
    exact ⟨rfl, rfl⟩
  · have ha : bits .and .i64 (v : Int) 127 = ((v % 128 : Nat) : Int) := and_low ⟨7, by decide⟩ ⟨v, hv⟩
    obtain ⟨V, hV⟩ : ∃ V : Int, ((v % 128 : Nat) : Int) = V := ⟨_, rfl⟩
    rw [hV] at ha
    rw [show ((v % 2 ^ 7 : Nat) : Int) = V from hV]
    clear hV
    go_enter Tryz.func143, Tryz.ntmps143
    go_wp2
    go_ret
    exact ⟨rfl, rfl⟩
  · have ha : bits .and .i64 (v : Int) 255 = ((v % 256 : Nat) : Int) := and_low ⟨8, by decide⟩ ⟨v, hv⟩
    obtain ⟨V, hV⟩ : ∃ V : Int, ((v % 256 : Nat) : Int) = V := ⟨_, rfl⟩
    rw [hV] at ha
    rw [show ((v % 2 ^ 8 : Nat) : Int) = V from hV]
    clear hV
    go_enter Tryz.func143, Tryz.ntmps143
    go_wp2
    go_ret
    exact ⟨rfl, rfl⟩

/-- The next n of the left bits of a byte. -/
def cutV (low : Bool) (last left n : Nat) : Nat := if low then last / 2 ^ (8 - left) % 2 ^ n else last / 2 ^ (left - n) % 2 ^ n

theorem div_lt (v k : Nat) (hv : v < 256) : v / 2 ^ k < 256 := Nat.lt_of_le_of_lt (Nat.div_le_self _ _) hv

set_option maxRecDepth 100000 in
theorem cutHigh_calls (last left n : Nat) (w : World) (hv : last < 256) (hn : n ≤ left) (hl : left ≤ 8) :
    Calls Tryz.prog 128 #[.int .i64 last, .int .i64 left, .int .i64 n] w fun e w' => e = .returned (.int .i64 (cutV false last left n)) ∧ w = w' := by
  have K := lowest_calls (last / 2 ^ (left - n)) n w (div_lt _ _ hv) (by omega)
  have e1 : ((left : Int) - n).toNat = left - n := by omega
  rw [show ((last / 2 ^ (left - n) : Nat) : Int) = (last : Int) / 2 ^ (left - n) from by simp] at K
  obtain ⟨V, hV⟩ : ∃ V : Int, ((last / 2 ^ (left - n) % 2 ^ n : Nat) : Int) = V := ⟨_, rfl⟩
  rw [hV] at K
  have e2 : ((cutV false last left n : Nat) : Int) = V := hV
  rw [e2]
  have hK := Lib.hid K
  clear K hV e2
  go_enter Tryz.func128, Tryz.ntmps128
  go_wp2_with fail
  refine hK.out.mono ?_
  rintro e w' ⟨rfl, rfl⟩
  go_wp2
  go_ret
  exact ⟨rfl, rfl⟩

set_option maxRecDepth 100000 in
theorem cutLow_calls (last left n : Nat) (w : World) (hv : last < 256) (hn : n ≤ left) (hl : left ≤ 8) :
    Calls Tryz.prog 126 #[.int .i64 last, .int .i64 left, .int .i64 n] w fun e w' => e = .returned (.int .i64 (cutV true last left n)) ∧ w = w' := by
  have K := lowest_calls (last / 2 ^ (8 - left)) n w (div_lt _ _ hv) (by omega)
  have e1 : ((8 : Int) - left).toNat = 8 - left := by omega
  rw [show ((last / 2 ^ (8 - left) : Nat) : Int) = (last : Int) / 2 ^ (8 - left) from by simp] at K
  obtain ⟨V, hV⟩ : ∃ V : Int, ((last / 2 ^ (8 - left) % 2 ^ n : Nat) : Int) = V := ⟨_, rfl⟩
  rw [hV] at K
  have e2 : ((cutV true last left n : Nat) : Int) = V := hV
  rw [e2]
  have hK := Lib.hid K
  clear K hV e2
  go_enter Tryz.func126, Tryz.ntmps126
  go_wp2_with fail
  refine hK.out.mono ?_
  rintro e w' ⟨rfl, rfl⟩
  go_wp2
  go_ret
  exact ⟨rfl, rfl⟩

theorem wraps_i64 (n : Int) (h₀ : 0 ≤ n) (h₁ : n < 2 ^ 63) : IntKind.i64.wrap n = n := IntWalk.i64_in _ (by omega)
theorem bits_or_comm (k : IntKind) (x y : Int) : bits .or k x y = bits .or k y x := by
  unfold bits
  simp only [BitVec.or_comm]
/-- n bits behind the number v. -/
def joinV (low : Bool) (v had part n : Nat) : Nat := if low then v + part * 2 ^ had else v * 2 ^ n + part
theorem pow_le40 {k : Nat} (h : k ≤ 40) : 2 ^ k ≤ 1099511627776 := Nat.le_trans (Nat.pow_le_pow_right (by decide) h) (by decide)

theorem or_join (v n part : Nat) (hp : part < 2 ^ n) (h : v * 2 ^ n + part < 1099511627776) : bits .or .i64 ((v : Int) * 2 ^ n) (part : Int) = ((v * 2 ^ n + part : Nat) : Int) := by
  have hm : ((v * 2 ^ n : Nat) : Int) % 2 ^ n = 0 := by
    have := Nat.mul_mod_left v (2 ^ n)
    exact_mod_cast this
  have hj := bits_join .i64 63 (by decide) wraps_i64 n ((v * 2 ^ n : Nat) : Int) (part : Int) (by omega) hm (by omega) (by omega) (by exact_mod_cast hp) (by omega)
  rw [show ((v * 2 ^ n : Nat) : Int) = (v : Int) * 2 ^ n from by simp] at hj
  rw [hj]
  simp

set_option maxRecDepth 100000 in
theorem joinHigh_calls (v had part n : Nat) (w : World) (hv : v < 2 ^ had) (hp : part < 2 ^ n) (hh : had + n ≤ 40) :
    Calls Tryz.prog 129 #[.int .i64 v, .int .i64 had, .int .i64 part, .int .i64 n] w fun e w' => e = .returned (.int .i64 (joinV false v had part n)) ∧ w = w' := by
  have hm : v * 2 ^ n + part < 2 ^ (had + n) := by
    rw [Nat.pow_add]
    have : (v + 1) * 2 ^ n ≤ 2 ^ had * 2 ^ n := Nat.mul_le_mul_right _ hv
    rw [Nat.add_mul] at this
    omega
  have h40 := pow_le40 hh
  have hj := or_join v n part hp (by omega)
  have b1 : ((v * 2 ^ n : Nat) : Int) ≤ 9223372036854775807 := by omega
  have b0 : (0 : Int) ≤ ((v * 2 ^ n : Nat) : Int) := by omega
  rw [show ((v * 2 ^ n : Nat) : Int) = (v : Int) * 2 ^ n from by simp] at b1 b0
  have hn : n ≤ 40 := by omega
  have e2 : ((joinV false v had part n : Nat) : Int) = ((v * 2 ^ n + part : Nat) : Int) := rfl
  rw [e2]
  obtain ⟨V, hV⟩ : ∃ V : Int, ((v * 2 ^ n + part : Nat) : Int) = V := ⟨_, rfl⟩
  rw [hV] at hj ⊢
  clear hV e2 hm h40 hv hh hp
  go_enter Tryz.func129, Tryz.ntmps129
  go_wp2
  trace_state
  go_ret
  exact ⟨rfl, rfl⟩

set_option maxRecDepth 100000 in
theorem joinLow_calls (v had part n : Nat) (w : World) (hv : v < 2 ^ had) (hp : part < 2 ^ n) (hh : had + n ≤ 40) :
    Calls Tryz.prog 127 #[.int .i64 v, .int .i64 had, .int .i64 part, .int .i64 n] w fun e w' => e = .returned (.int .i64 (joinV true v had part n)) ∧ w = w' := by
  have hm : part * 2 ^ had + v < 2 ^ (n + had) := by
    rw [Nat.pow_add]
    have : (part + 1) * 2 ^ had ≤ 2 ^ n * 2 ^ had := Nat.mul_le_mul_right _ hp
    rw [Nat.add_mul] at this
    omega
  have h40 := pow_le40 (show n + had ≤ 40 by omega)
  have hj := or_join part had v hv (by omega)
  rw [bits_or_comm] at hj
  have b1 : ((part * 2 ^ had : Nat) : Int) ≤ 9223372036854775807 := by omega
  have b0 : (0 : Int) ≤ ((part * 2 ^ had : Nat) : Int) := by omega
  rw [show ((part * 2 ^ had : Nat) : Int) = (part : Int) * 2 ^ had from by simp] at b1 b0
  have hn : had ≤ 40 := by omega
  have e2 : ((joinV true v had part n : Nat) : Int) = ((part * 2 ^ had + v : Nat) : Int) := by unfold joinV; rw [if_pos rfl, Nat.add_comm]
  rw [e2]
  obtain ⟨V, hV⟩ : ∃ V : Int, ((part * 2 ^ had + v : Nat) : Int) = V := ⟨_, rfl⟩
  rw [hV] at hj ⊢
  clear hV e2 hm h40 hv hh hp
  go_enter Tryz.func127, Tryz.ntmps127
  go_wp2
  go_ret
  exact ⟨rfl, rfl⟩

end Go.Proofs.YtcfdippcobkbaaaGreat.Bi

/- Package bits: numbers of bits, by definition: pure. -/
namespace Go.Proofs.YtcfdippcobkbaaaGreat.Bi
open Go.RowKit
set_option linter.unusedVariables false

/-- The number of n bits of a byte from bit j on. -/
def bitB (low : Bool) (c j : Nat) : Nat → Nat
  | 0 => 0
  | n + 1 => joinV low (bitB low c j n) n (if low then c / 2 ^ (j + n) % 2 else c / 2 ^ (7 - (j + n)) % 2) 1
/-- Bit i of a text's bytes. -/
def bitAt (low : Bool) (s : ByteArray) (i : Nat) : Nat :=
  match s.data.toList[i / 8]? with
  | none => 0
  | some c => if low then c.toNat / 2 ^ (i % 8) % 2 else c.toNat / 2 ^ (7 - i % 8) % 2
/-- The number of n bits from bit a on. -/
def bitsV (low : Bool) (s : ByteArray) (a : Nat) : Nat → Nat
  | 0 => 0
  | n + 1 => joinV low (bitsV low s a n) n (bitAt low s (a + n)) 1

theorem bitAt_lt (low : Bool) (s : ByteArray) (i : Nat) : bitAt low s i < 2 := by
  unfold bitAt
  split
  · decide
  · split <;> exact Nat.mod_lt _ (by decide)
theorem bitsV_lt (low : Bool) (s : ByteArray) (a : Nat) : ∀ n, bitsV low s a n < 2 ^ n
  | 0 => by simp [bitsV]
  | n + 1 => by
    have ih := bitsV_lt low s a n
    have hb := bitAt_lt low s (a + n)
    rw [bitsV, joinV, show (2 : Nat) ^ (n + 1) = 2 ^ n * 2 from Nat.pow_succ _ _]
    split
    · have : bitAt low s (a + n) * 2 ^ n ≤ 1 * 2 ^ n := Nat.mul_le_mul_right _ (by omega)
      omega
    · rw [show (2 : Nat) ^ 1 = 2 from rfl]
      omega
/-- Numbers of bits are put together. -/
theorem bits_add (low : Bool) (s : ByteArray) (a n : Nat) : ∀ m, bitsV low s a (n + m) = joinV low (bitsV low s a n) n (bitsV low s (a + n) m) m
  | 0 => by cases low <;> simp [bitsV, joinV]
  | m + 1 => by
    rw [← Nat.add_assoc, bitsV, bits_add low s a n m, bitsV, Nat.add_assoc a n m]
    cases low with
    | true =>
      simp only [joinV, if_true]
      rw [Nat.add_mul, Nat.mul_assoc, ← Nat.pow_add, Nat.add_comm m n, Nat.add_assoc]
    | false =>
      simp only [joinV, Bool.false_eq_true, if_false]
      rw [show (2 : Nat) ^ (m + 1) = 2 ^ m * 2 from Nat.pow_succ _ _, show (2 : Nat) ^ 1 = 2 from rfl, Nat.add_mul, Nat.mul_assoc, Nat.add_assoc]

theorem cut_bitB : ∀ (low : Bool) (left n : Fin 9) (c : Fin 256), n.1 ≤ left.1 → cutV low c.1 left.1 n.1 = bitB low c.1 (8 - left.1) n.1 := by decide +kernel
theorem bits_in (low : Bool) (s : ByteArray) (p left : Nat) (hp : p < s.size) (hl : left ≤ 8) : ∀ n, n ≤ left → bitsV low s (8 * p + (8 - left)) n = bitB low (s[p].toNat) (8 - left) n
  | 0, _ => rfl
  | n + 1, h => by
    rw [bitsV, bitB, bits_in low s p left hp hl n (by omega)]
    congr 1
    unfold bitAt
    have e1 : (8 * p + (8 - left) + n) / 8 = p := by omega
    have e2 : (8 * p + (8 - left) + n) % 8 = 8 - left + n := by omega
    rw [e1, e2, byte_at s p hp]
/-- What is cut of a byte is the number of those bits. -/
theorem cut_is (low : Bool) (s : ByteArray) (p left n : Nat) (hp : p < s.size) (hl : left ≤ 8) (hn : n ≤ left) : cutV low (s[p].toNat) left n = bitsV low s (8 * p + (8 - left)) n := by
  rw [bits_in low s p left hp hl n hn]
  exact cut_bitB low ⟨left, by omega⟩ ⟨n, by omega⟩ ⟨s[p].toNat, s[p].toNat_lt⟩ hn

end Go.Proofs.YtcfdippcobkbaaaGreat.Bi

/- Package bits: the number of the next bits. -/
namespace Go.Proofs.YtcfdippcobkbaaaGreat.Bi
open Go.ChangeShapes Go.WideShapes Go.ChangeAt Go.RowKit
open Go.Proofs.YtcfdippcobkbaaaGreat.Le Go.Proofs.YtcfdippcobkbaaaGreat.Sr
set_option linter.unusedVariables false

/-- A reader of a whole text, a bits of which are read, over a ledger of m steps, one done for each byte. -/
structure RS (m : Nat) (r c l : Nat) (s : ByteArray) (a : Nat) (low : Bool) (p left : Nat) (last : Int) (w : World) : Prop where
  bt : Bt r c last left low w
  so : So c l s p 0 s.size w
  led : Led l (LW m p).ls w
  rl : r ≠ l
  pos : 8 * p = a + left
  l8 : left ≤ 8
  la : ∀ (q : Nat) (h : q < s.size), q + 1 = p → 0 < left → last = (s[q].toNat : Int)
  sm : s.size < m
  mb : m ≤ 9223372036854775807

theorem RS.go {m r c l : Nat} {s : ByteArray} {a : Nat} {low : Bool} {p left : Nat} {last : Int} {w w' : World} (h : RS m r c l s a low p left last w) (g : w.grownBy w' none) : RS m r c l s a low p left last w' :=
  ⟨h.bt.grown g (by simp), h.so.grown g (by simp), h.led.grown g (by simp), h.rl, h.pos, h.l8, h.la, h.sm, h.mb⟩

/-- A byte is there to be cut, or taken. -/
theorem fill_any (m r c l : Nat) (s : ByteArray) (a : Nat) (low : Bool) (p left : Nat) (last : Int) (w : World) (h : RS m r c l s a low p left last w) (hs : a < 8 * s.size) :
    Calls Tryz.prog 130 #[.pointer (some ⟨r, 0, none⟩)] w
      fun e w' => ∃ (p' left' : Nat) (last' : Int), e = .returned (.bool true) ∧ (RS m r c l s a low p' left' last' w' ∧ 0 < left') ∧ Tn w w' [r, c, l] := by
  by_cases hl : 0 < left
  · exact (fill_some r c last left low w h.bt (by omega)).mono fun e w' ⟨he, hw⟩ => ⟨p, left, last, he, ⟨hw ▸ h, hl⟩, hw ▸ Tn.refl _ _⟩
  · have h0 : left = 0 := by omega
    subst h0
    have hp : p < s.size := by have := h.pos; omega
    have hsm := h.sm
    have hmb := h.mb
    refine (fill_yes r c l s p 0 s.size (LW m p) last low w h.bt h.so h.led (LW_ok (by omega) (by omega) (by omega)) h.rl (LW_rd (by omega) (by decide) (by omega)) hp).mono ?_
    rintro e w' ⟨he, ⟨B, S, L⟩, g⟩
    rw [LW_work (by omega)] at L
    have L' : Led l (LW m ((p + 1 : Nat) : Int)).ls w' := by
      rwa [show ((p + 1 : Nat) : Int) = (p : Int) + 1 from by omega]
    have R : RS m r c l s a low (p + 1) 8 (s[p].toNat : Int) w' :=
      ⟨B, S, L', h.rl, by have := h.pos; omega, Nat.le_refl _, fun q hq e _ => (by have hqp : q = p := (by omega); subst hqp; rfl), h.sm, h.mb⟩
    exact ⟨p + 1, 8, _, he, ⟨R, by decide⟩, g⟩

/-- No byte is there any more. -/
theorem fill_end (m r c l : Nat) (s : ByteArray) (a : Nat) (low : Bool) (p left : Nat) (last : Int) (w : World) (h : RS m r c l s a low p left last w) (hs : a = 8 * s.size) :
    Calls Tryz.prog 130 #[.pointer (some ⟨r, 0, none⟩)] w
      fun e w' => e = .returned (.bool false) ∧ (So c l s s.size 0 s.size w' ∧ Led l (LW m (s.size + 1)).ls w' ∧ Bt r c last 0 low w') ∧ Tn w w' [r, c, l] := by
  have h1 := h.pos
  have h2 := h.so.pt
  have h0 : left = 0 := by omega
  subst h0
  have hp : p = s.size := by omega
  subst hp
  have hsm := h.sm
  have hmb := h.mb
  refine (fill_no r c l s s.size 0 s.size (LW m s.size) last low w h.bt h.so h.led (LW_ok (by omega) (by omega) (by omega)) h.rl (LW_out (by omega) (by omega))).mono ?_
  rintro e w' ⟨he, ⟨B, S, L⟩, g⟩
  rw [LW_work (by omega)] at L
  exact ⟨he, ⟨S, L, B⟩, Tn.gb g (by simp)⟩

theorem abs_b {Q R : World → Prop} {w : World} (h : R w) (k : ∀ w', R w' → Q w') : Q w := k w h
theorem quiet_w {P : Program} {f : FuncId} {args : Array Value} {w : World} {n : Nat} {v : Value}
    (h : Calls P f args (w.drewN n) fun e w' => e = .returned v ∧ w.drewN n = w') : Calls P f args (w.drewN n) fun e w'' => e = .returned v ∧ ∃ m, w'' = w.drewN m :=
  h.mono fun _ _ ⟨he, hm⟩ => ⟨he, n, hm.symm⟩

set_option maxRecDepth 100000 in
set_option maxHeartbeats 4000000 in
theorem read_high (m r c l : Nat) (s : ByteArray) (a n : Nat) (p left : Nat) (last : Int) (w : World) (h : RS m r c l s a false p left last w) (h7 : left ≤ 7) (hn : n ≤ 32) (hs : a + n ≤ 8 * s.size) :
    Calls Tryz.prog 100 #[.pointer (some ⟨r, 0, none⟩), .int .i64 n] w
      fun e w' => ∃ (p' left' : Nat) (last' : Int), e = .returned (.tuple #[.int .i64 (bitsV false s a n), .bool true]) ∧ (RS m r c l s (a + n) false p' left' last' w' ∧ left' ≤ 7) ∧ Tn w w' [r, c, l] := by
  have H := Lib.hid h
  clear h
  go_enter Tryz.func100, Tryz.ntmps100
  go_wp2_with fail
  go_loopg [6, 7] (n + 1) (fun q vv hv wr => ∃ (had p left : Nat) (last : Int), had ≤ n ∧ q = n + 1 - had ∧ vv = .int .i64 (bitsV false s a had) ∧ hv = .int .i64 had ∧ (RS m r c l s (a + had) false p left last wr ∧ left ≤ 7) ∧ Tn w wr [r, c, l])
  case atStart => exact ⟨0, p, left, last, by omega, rfl, rfl, rfl, ⟨H.out, h7⟩, Tn.refl _ _⟩
  case round =>
    obtain ⟨had, p, left, last, hk, rfl, rfl, rfl, ⟨R, l7⟩, T⟩ := hrel
    have HR := Lib.hid R
    have HT := Lib.hid T
    clear R T
    by_cases hlt : had < n
    · have vlt := bitsV_lt false s a had
      obtain ⟨v, hv⟩ : ∃ v, bitsV false s a had = v := ⟨_, rfl⟩
      rw [hv] at vlt ⊢
      have HV := Lib.hid hv
      have KF := Lib.hid (fill_any m r c l s (a + had) false p left last wr HR.out (by omega))
      clear hv
      go_wp2_with fail
      refine KF.out.mono ?_
      rintro e w1 ⟨p1, left1, last1, rfl, ⟨R1, hl1⟩, T1⟩
      have HR1 := Lib.hid R1
      have HT1 := Lib.hid (HT.out.trans T1)
      have d1 := R1.bt.c1
      have d2 := R1.bt.c2
      have d3 := R1.bt.c3
      have d4 := R1.bt.c4
      have z2 := R1.bt.free 2
      have pos1 := R1.pos
      have l8 := R1.l8
      have sp1 := R1.so.pt
      clear R1 T1 KF
      obtain ⟨q, rfl⟩ : ∃ q, p1 = q + 1 := ⟨p1 - 1, by omega⟩
      have hq : q < s.size := by omega
      have el := HR1.out.la q hq rfl hl1
      rw [el] at d1
      obtain ⟨part, hpart⟩ : ∃ part, min (n - had) left1 = part := ⟨_, rfl⟩
      have ep : min ((n : Int) - had) (left1 : Int) = (part : Int) := by omega
      have p1 : part ≤ left1 := by omega
      have p2 : part ≤ n - had := by omega
      have p3 : 1 ≤ part := by omega
      have hcut := cut_is false s q left1 part hq l8 p1
      rw [show 8 * q + (8 - left1) = a + had from by omega] at hcut
      have KC := fun w => cutHigh_calls (s[q].toNat) left1 part w s[q].toNat_lt p1 l8
      rw [hcut] at KC
      have plt := bitsV_lt false s (a + had) part
      have hadd := bits_add false s a had part
      obtain ⟨x, hx⟩ : ∃ x, bitsV false s (a + had) part = x := ⟨_, rfl⟩
      rw [hx] at KC plt hadd
      rw [HV.out] at hadd
      have KJ := fun w => joinHigh_calls v had x part w vlt plt (by omega)
      rw [← hadd] at KJ
      have HC := Lib.hid KC
      have HJ := Lib.hid KJ
      obtain ⟨b, hb⟩ : ∃ b : Int, (s[q].toNat : Int) = b := ⟨_, rfl⟩
      rw [hb] at d1 HC
      clear KC KJ hcut hadd hx hpart vlt plt el hb
      simp only [cutF, joinF, Bool.false_eq_true, if_false] at d3 d4
      go_wp2_with fail
      go_quiet ((first
        | (go_at_call 128; exact quiet_w (HC.out _))
        | (go_at_call 129; exact quiet_w (HJ.out _))))
      refine abs_b (R := fun w2 => RS m r c l s (a + had) false (q + 1) left1 last1 w2 ∧ Tn w w2 [r, c, l]) ⟨HR1.out.go (gb_drewN _ _ none), HT1.out.dn⟩ (fun w2 I2 => ?_)
      clear d1 d2 d3 d4 z2 HT1
      have HI := Lib.hid I2
      have d2 := I2.1.bt.c2
      have z2 := I2.1.bt.free 2
      clear I2
      go_wp2
      go_roundg (n + 1 - (had + part))
      case measure => omega
      case rel =>
        have TT : Tn w2 (w2.setCell ⟨r, 2, none⟩ (.int .i64 ((left1 : Int) - part))) [r] := (Tn.refl w2 [r]).st (by simp)
        have B2 := HI.out.1.bt.set2 ((left1 : Int) - part)
        rw [show ((left1 : Int) - part) = ((left1 - part : Nat) : Int) from by omega] at B2 TT ⊢
        have rc := HI.out.1.bt.rc
        have rl := HI.out.1.rl
        refine ⟨had + part, q + 1, left1 - part, last1, by omega, rfl, rfl, by go_num, ⟨⟨B2, HI.out.1.so.turned TT (by simpa using rc.symm), HI.out.1.led.turned TT (by simpa using rl.symm), rl, by omega, by omega, fun q' hq' e' h' => HI.out.1.la q' hq' e' hl1, HI.out.1.sm, HI.out.1.mb⟩, by omega⟩, HI.out.2.trans (TT.mono (by simp))⟩
    · have hkn : had = n := by omega
      subst hkn
      go_wp2
      go_ret2
      exact ⟨p, left, last, rfl, ⟨HR.out, l7⟩, HT.out⟩

end Go.Proofs.YtcfdippcobkbaaaGreat.Bi

/- Package bits: one bit is read, by any ledger. -/
namespace Go.Proofs.YtcfdippcobkbaaaGreat.Bi
open Go.ChangeShapes Go.WideShapes Go.ChangeAt Go.RowKit
open Go.Proofs.YtcfdippcobkbaaaGreat.Le Go.Proofs.YtcfdippcobkbaaaGreat.Sr Go.Proofs.YtcfdippcobkbaaaGreat.Tk
set_option linter.unusedVariables false

set_option maxRecDepth 100000 in
set_option maxHeartbeats 4000000 in
/-- A byte y is at hand, or taken: its bit L (0: the last one). -/
theorem read1_of (r c l : Nat) (s : ByteArray) (y L p' : Nat) (x' : St) (w : World) (hL : L ≤ 7) (hy : y < 256)
    (KF : Calls Tryz.prog 130 #[.pointer (some ⟨r, 0, none⟩)] w fun e w' => e = .returned (.bool true) ∧ (Bt r c (y : Int) ((L + 1 : Nat) : Int) false w' ∧ Rd c l s p' x' w') ∧ Tn w w' [r, c, l]) (rl : r ≠ l) :
    Calls Tryz.prog 100 #[.pointer (some ⟨r, 0, none⟩), .int .i64 1] w
      fun e w' => e = .returned (.tuple #[.int .i64 ((y / 2 ^ L % 2 : Nat) : Int), .bool true]) ∧ (Bt r c (y : Int) (L : Int) false w' ∧ Rd c l s p' x' w') ∧ Tn w w' [r, c, l] := by
  have hcut : cutV false y (L + 1) 1 = y / 2 ^ L % 2 := by
    show y / 2 ^ (L + 1 - 1) % 2 ^ 1 = _
    rw [Nat.add_sub_cancel]
  have hbit : y / 2 ^ L % 2 < 2 := Nat.mod_lt _ (by decide)
  obtain ⟨v, hv⟩ : ∃ v, y / 2 ^ L % 2 = v := ⟨_, rfl⟩
  have KC := fun w => cutHigh_calls y (L + 1) 1 w hy (by omega) (by omega)
  rw [hv] at hcut hbit ⊢
  rw [hcut] at KC
  have hjoin : joinV false 0 0 v 1 = v := by
    show 0 * 2 ^ 1 + v = v
    omega
  have KJ := fun w => joinHigh_calls 0 0 v 1 w (by decide) (by omega) (by decide)
  rw [hjoin] at KJ
  have HC := Lib.hid KC
  have HJ := Lib.hid KJ
  have KF := Lib.hid KF
  obtain ⟨b, hb⟩ : ∃ b : Int, (y : Int) = b := ⟨_, rfl⟩
  obtain ⟨M, hM⟩ : ∃ M : Int, ((L + 1 : Nat) : Int) = M := ⟨_, rfl⟩
  rw [hb] at KF HC ⊢
  rw [hM] at KF HC
  have M1 : 1 ≤ M := by omega
  have M8 : M ≤ 8 := by omega
  have ep : min (1 : Int) M = 1 := by omega
  have eM : M - 1 = (L : Int) := by omega
  have HB := Lib.hid hbit
  clear KC KJ hcut hjoin hb hM hv hbit hy hL
  go_enter Tryz.func100, Tryz.ntmps100
  go_wp2_with fail
  go_loopg [6, 7] 1 (fun q vv hv wr => (q = 1 ∧ vv = .int .i64 0 ∧ hv = .int .i64 0 ∧ w = wr) ∨ (q = 0 ∧ vv = .int .i64 v ∧ hv = .int .i64 1 ∧ (Bt r c b (L : Int) false wr ∧ Rd c l s p' x' wr) ∧ Tn w wr [r, c, l]))
  case atStart => exact .inl ⟨rfl, rfl, rfl, rfl⟩
  case round =>
    rcases hrel with ⟨rfl, rfl, rfl, rfl⟩ | ⟨rfl, rfl, rfl, ⟨B, R⟩, T⟩
    · have d0 : decide ((0 : Int) < 1) = true := rfl
      go_wp2_with fail
      refine KF.out.mono ?_
      rintro e w1 ⟨rfl, ⟨B1, R1⟩, T1⟩
      have d1 := B1.c1
      have d2 := B1.c2
      have d3 := B1.c3
      have d4 := B1.c4
      have z2 := B1.free 2
      have HB1 := Lib.hid B1
      have HR1 := Lib.hid R1
      have HT1 := Lib.hid T1
      clear B1 R1 T1 KF
      simp only [cutF, joinF, Bool.false_eq_true, if_false] at d3 d4
      go_wp2_with fail
      go_quiet ((first
        | (go_at_call 128; exact quiet_w (HC.out _))
        | (go_at_call 129; exact quiet_w (HJ.out _))))
      refine abs_b (R := fun w2 => (Bt r c b M false w2 ∧ Rd c l s p' x' w2) ∧ Tn w w2 [r, c, l]) ⟨⟨HB1.out.grown (gb_drewN _ _ none) (by simp), HR1.out.grown (gb_drewN _ _ none)⟩, HT1.out.dn⟩ (fun w2 I2 => ?_)
      clear d1 d2 d3 d4 z2 HT1 HB1 HR1
      have HI := Lib.hid I2
      have d2 := I2.1.1.c2
      have z2 := I2.1.1.free 2
      clear I2
      go_wp2
      go_roundg 0
      case measure => omega
      case rel =>
        have TT : Tn w2 (w2.setCell ⟨r, 2, none⟩ (.int .i64 (L : Int))) [r] := (Tn.refl w2 [r]).st (by simp)
        have B2 := HI.out.1.1.set2 (L : Int)
        have rc := HI.out.1.1.rc
        have R2 := HI.out.1.2
        exact .inr ⟨rfl, rfl, rfl, ⟨B2, ⟨R2.so.turned TT (by simpa using rc.symm), R2.led.turned TT (by simpa using rl.symm), R2.ok⟩⟩, HI.out.2.trans (TT.mono (by simp))⟩
    · have HBB := Lib.hid B
      have HR := Lib.hid R
      have HT := Lib.hid T
      clear B R T
      go_wp2
      go_ret2
      exact ⟨rfl, ⟨HBB.out, HR.out⟩, HT.out⟩

set_option maxRecDepth 100000 in
set_option maxHeartbeats 4000000 in
/-- No byte comes. -/
theorem read1_no (r c l : Nat) (s : ByteArray) (p' : Nat) (x' : St) (w : World) (Y : World → Prop)
    (KF : Calls Tryz.prog 130 #[.pointer (some ⟨r, 0, none⟩)] w fun e w' => e = .returned (.bool false) ∧ Y w') :
    Calls Tryz.prog 100 #[.pointer (some ⟨r, 0, none⟩), .int .i64 1] w
      fun e w' => e = .returned (.tuple #[.int .i64 0, .bool false]) ∧ Y w' := by
  have KF := Lib.hid KF
  go_enter Tryz.func100, Tryz.ntmps100
  go_wp2_with fail
  go_loopg [6, 7] 1 (fun q vv hv wr => q = 1 ∧ vv = .int .i64 0 ∧ hv = .int .i64 0 ∧ w = wr)
  case atStart => exact ⟨rfl, rfl, rfl, rfl⟩
  case round =>
    obtain ⟨rfl, rfl, rfl, rfl⟩ := hrel
    have d0 : decide ((0 : Int) < 1) = true := rfl
    go_wp2_with fail
    refine KF.out.mono ?_
    rintro e w1 ⟨rfl, Y1⟩
    have HY := Lib.hid Y1
    clear Y1 KF
    go_wp2
    go_ret2
    exact ⟨rfl, HY.out⟩

end Go.Proofs.YtcfdippcobkbaaaGreat.Bi
