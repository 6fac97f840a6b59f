/- Texts of one kind, one behind the other: Src4, Src5, Tok7, SrcA. -/
import Derived.Deep.LoopGhost
import Derived.Laws.BitsAllLaws
import Derived.Lib.BufferWrite
import Derived.Lib.RabinKarpLaws
import Derived.Test.YtmhghkgcfgacdaaGreatG08
import Derived.Test.YtmhghkgcfgacdaaGreatG10
/- Package src: numbers are put together of bytes. -/
namespace Go.Proofs.YtmhghkgcfgacdaaGreat.Sr
open Go.ChangeShapes Go.WideShapes Go.ChangeAt Go.RowKit
open Go.Proofs.YtmhghkgcfgacdaaGreat.Le
set_option linter.unusedVariables false

/-- The number of some bytes, the highest first. -/
def acc (z : List UInt8) : Nat := z.foldl (fun v c => 256 * v + c.toNat) 0
/-- Bytes in the order in which they weigh, the highest first. -/
def ordd (o : Bool) (z : List UInt8) : List UInt8 := if o then z else z.reverse
theorem acc_snoc (z : List UInt8) (c : UInt8) : acc (z ++ [c]) = 256 * acc z + c.toNat := by simp [acc, List.foldl_append]
theorem acc_lt' (z : List UInt8) : acc z.reverse < 256 ^ z.length := by
  induction z with
  | nil => simp [acc]
  | cons c z ih =>
    rw [List.reverse_cons, acc_snoc, List.length_cons, Nat.pow_succ]
    have := c.toNat_lt
    omega
theorem acc_lt (z : List UInt8) : acc z < 256 ^ z.length := by
  have h := acc_lt' z.reverse
  rwa [List.reverse_reverse, List.length_reverse] at h
theorem ordd_len (o : Bool) (z : List UInt8) : (ordd o z).length = z.length := by unfold ordd; split <;> simp
/-- The number of bytes, in an order. -/
def numV (o : Bool) (z : ByteArray) : Nat := acc (ordd o z.data.toList)
/-- Which byte is taken in round k. -/
def nxt (o : Bool) (n k : Nat) : Nat := if o then k else n - 1 - k
theorem nxt_lt (o : Bool) {n k : Nat} (h : k < n) : nxt o n k < n := by unfold nxt; split <;> omega
theorem ordd_at (o : Bool) (z : List UInt8) (k : Nat) (h : k < z.length) : (ordd o z)[k]'(by rw [ordd_len]; exact h) = z[nxt o z.length k]'(nxt_lt o h) := by
  cases o with
  | true => rfl
  | false => simp [ordd, nxt, List.getElem_reverse]
theorem acc_step (o : Bool) (z : List UInt8) (k : Nat) (h : k < z.length) : acc ((ordd o z).take (k + 1)) = 256 * acc ((ordd o z).take k) + (z[nxt o z.length k]'(nxt_lt o h)).toNat := by
  rw [← ordd_at o z k h, List.take_succ_eq_append_getElem (by rw [ordd_len]; exact h), acc_snoc]

theorem wraps_u32 (n : Int) (h₀ : 0 ≤ n) (h₁ : n < 2 ^ 32) : IntKind.u32.wrap n = n := by rw [IntKind.wrap_u32]; omega
/-- A number moved on by a byte. -/
theorem or32 (v c : Nat) (hv : v < 16777216) (hc : c < 256) : bits .or .u32 ((v : Int) * 256 % 4294967296) (c : Int) = ((256 * v + c : Nat) : Int) := by
  rw [show (v : Int) * 256 % 4294967296 = v * 256 from by omega]
  have h := bits_join .u32 32 (by decide) wraps_u32 8 ((v : Int) * 256) (c : Int) (by omega) (by omega) (by omega) (by omega) (by omega) (by omega)
  omega

theorem acc_lt4 (z : List UInt8) (h : z.length ≤ 4) : acc z < 4294967296 :=
  Nat.lt_of_lt_of_le (acc_lt z) (Nat.le_trans (Nat.pow_le_pow_right (by decide) h) (by decide))

set_option maxRecDepth 100000 in
set_option maxHeartbeats 2000000 in
theorem read8_go (b l : Nat) (z : ByteArray) (n : Nat) (o : Bool) (w : World) (K : World → Prop) (hz : z.size = n) (hn : n ≤ 1)
    (hT : Calls Tryz.prog 62 #[.pointer (some ⟨b, 0, none⟩), .int .i64 n] w fun e w' => e = .returned (.tuple #[.string z, .bool true]) ∧ K w') :
    Calls Tryz.prog 95 #[.pointer (some ⟨b, 0, none⟩), .int .i64 n, .bool o] w
      fun e w' => e = .returned (.tuple #[.int .i64 (numV o z), .bool true]) ∧ K w' := by
  have hK := Lib.hid hT
  clear hT
  go_enter Tryz.func95, Tryz.ntmps95
  go_wp2_with fail
  refine hK.out.mono ?_
  rintro e w1 ⟨rfl, hw⟩
  have HW := Lib.hid hw
  clear hw
  go_wp2_with fail
  go_loopg [10, 22] n (fun q vv iv wr => ∃ k : Nat, k ≤ n ∧ q = n - k ∧ vv = .int .u32 (acc ((ordd o z.data.toList).take k)) ∧ iv = .int .i64 k ∧ w1 = wr)
  case atStart => exact ⟨0, by omega, rfl, rfl, rfl, rfl⟩
  case round =>
    obtain ⟨k, hk, rfl, rfl, rfl, rfl⟩ := hrel
    have hl := Lib.size_eq z
    by_cases hlt : k < n
    · have st := acc_step o z.data.toList k (by omega)
      have lt := Nat.lt_of_lt_of_le (acc_lt ((ordd o z.data.toList).take k)) (Nat.pow_le_pow_right (by decide) (show _ ≤ 3 from by rw [List.length_take]; omega))
      obtain ⟨v, hv⟩ : ∃ v, acc ((ordd o z.data.toList).take k) = v := ⟨_, rfl⟩
      rw [hv] at st lt ⊢
      have ST := Lib.hid st
      have LT := Lib.hid lt
      clear st lt hv
      cases o with
      | true =>
        have hi : nxt true z.data.toList.length k = k := rfl
        have st' := ST.out
        simp only [hi] at st'
        rw [byte_at' z k (by omega) (by omega)] at st'
        have b255 := (z[k]'(by omega)).toNat_lt
        obtain ⟨c, hcz⟩ : ∃ c, (z[k]'(by omega)).toNat = c := ⟨_, rfl⟩
        rw [hcz] at st' b255
        have OR := or32 v c (by have := LT.out; omega) b255
        have SS := Lib.hid st'
        clear st'
        go_wp2
        go_roundg (n - (k + 1))
        case measure => omega
        case rel => exact ⟨k + 1, by omega, rfl, by rw [SS.out]; go_num, by go_num, rfl⟩
      | false =>
        have hi : nxt false z.data.toList.length k = 0 := by unfold nxt; rw [if_neg (by decide)]; omega
        have st' := ST.out
        simp only [hi] at st'
        rw [byte_at' z 0 (by omega) (by omega)] at st'
        have b255 := (z[0]'(by omega)).toNat_lt
        obtain ⟨c, hcz⟩ : ∃ c, (z[0]'(by omega)).toNat = c := ⟨_, rfl⟩
        rw [hcz] at st' b255
        have OR := or32 v c (by have := LT.out; omega) b255
        have SS := Lib.hid st'
        clear st'
        go_wp2
        go_roundg (n - (k + 1))
        case measure => omega
        case rel => exact ⟨k + 1, by omega, rfl, by rw [SS.out]; go_num, by go_num, rfl⟩
    · have hkn : k = n := by omega
      subst hkn
      have e1 : (ordd o z.data.toList).take k = ordd o z.data.toList := List.take_of_length_le (by rw [ordd_len, ← hl, hz]; exact Nat.le_refl _)
      rw [e1]
      have lt : acc (ordd o z.data.toList) < 256 := Nat.lt_of_lt_of_le (acc_lt _) (Nat.pow_le_pow_right (by decide) (show _ ≤ 1 from by rw [ordd_len]; omega))
      have e2 : wrap64 (acc (ordd o z.data.toList) : Int) = acc (ordd o z.data.toList) := IntWalk.wrap64_in _ (by omega)
      go_wp2
      go_ret2
      exact ⟨rfl, HW.out⟩

/-- A number of four bytes with a sign. -/
def sgn (v : Nat) : Int := if 2147483648 ≤ v then (v : Int) - 4294967296 else v
theorem sgn_is (v : Nat) (h : v < 4294967296) : wrap32 (v : Int) = sgn v := by
  unfold sgn wrap32
  split <;> omega
theorem sgn_in (v : Nat) (h : v < 4294967296) : -9223372036854775808 ≤ sgn v ∧ sgn v ≤ 9223372036854775807 := by
  unfold sgn
  split <;> omega

end Go.Proofs.YtmhghkgcfgacdaaGreat.Sr

/- Package src: the six numbers. -/
namespace Go.Proofs.YtmhghkgcfgacdaaGreat.Sr
open Go.ChangeShapes Go.WideShapes Go.ChangeAt Go.RowKit
open Go.Proofs.YtmhghkgcfgacdaaGreat.Le
set_option linter.unusedVariables false

theorem part_size (s : ByteArray) (p n : Nat) (h : p + n ≤ s.size) : (s.extract p (p + n)).size = n := by
  rw [ByteArray.size_extract]
  omega

theorem read8_no (b : Nat) (n : Int) (o : Bool) (w : World) (K : World → Prop)
    (hT : Calls Tryz.prog 62 #[.pointer (some ⟨b, 0, none⟩), .int .i64 n] w fun e w' => e = .returned (.tuple #[.string ⟨#[]⟩, .bool false]) ∧ K w') :
    Calls Tryz.prog 95 #[.pointer (some ⟨b, 0, none⟩), .int .i64 n, .bool o] w
      fun e w' => e = .returned (.tuple #[.int .i64 0, .bool false]) ∧ K w' := by
  have hK := Lib.hid hT
  clear hT
  go_enter Tryz.func95, Tryz.ntmps95
  go_wp2_with fail
  refine hK.out.mono ?_
  rintro e w1 ⟨rfl, hw⟩
  have HW := Lib.hid hw
  clear hw
  go_wp2
  go_ret2
  exact ⟨rfl, HW.out⟩

set_option maxRecDepth 100000 in
theorem u8_yes (b l : Nat) (s : ByteArray) (p f t : Nat) (x : St) (w : World) (h : So b l s p f t w) (hl : Led l x.ls w) (ok : x.Ok) (hn : rdB x p t 1 = true) :
    Calls Tryz.prog 72 #[.pointer (some ⟨b, 0, none⟩)] w
      fun e w' => e = .returned (.tuple #[.int .i64 (numV false (s.extract p (p + 1))), .bool true]) ∧ (So b l s (p + 1) f t w' ∧ Led l (x.work 1).1.ls w') ∧ Tn w w' [b, l] := by
  have hz := rd_of hn
  have h2 := h.ts
  have hT := (read8_go b l (s.extract p (p + 1)) 1 false w _ (part_size s p 1 (by omega)) (by decide) (take_yes b l s p f t 1 x w h hl ok hn))
  obtain ⟨V, hV⟩ : ∃ V : Int, ((numV false (s.extract p (p + 1))) : Int) = V := ⟨_, rfl⟩
  rw [hV] at hT ⊢
  have hK := Lib.hid hT
  clear h hl ok hn hz hV hT
  go_enter Tryz.func72, Tryz.ntmps72
  go_wp2_with fail
  refine hK.out.mono ?_
  rintro e w1 ⟨rfl, hw⟩
  have HW := Lib.hid hw
  clear hw
  go_wp2
  go_ret2
  exact ⟨rfl, HW.out⟩

set_option maxRecDepth 100000 in
theorem u8_no (b l : Nat) (s : ByteArray) (p f t : Nat) (x : St) (w : World) (h : So b l s p f t w) (hl : Led l x.ls w) (ok : x.Ok) (hn : rdB x p t 1 = false) :
    Calls Tryz.prog 72 #[.pointer (some ⟨b, 0, none⟩)] w
      fun e w' => e = .returned (.tuple #[.int .i64 0, .bool false]) ∧ (So b l s p f t w' ∧ Led l (x.work 1).1.ls w') ∧ w.grownBy w' (some l) := by
  have hK := Lib.hid (read8_no b 1 false w _ (take_no b l s p f t x 1 w h hl ok hn))
  clear h hl ok hn
  go_enter Tryz.func72, Tryz.ntmps72
  go_wp2_with fail
  refine hK.out.mono ?_
  rintro e w1 ⟨rfl, hw⟩
  have HW := Lib.hid hw
  clear hw
  go_wp2
  go_ret2
  exact ⟨rfl, HW.out⟩

end Go.Proofs.YtmhghkgcfgacdaaGreat.Sr

/- Readings of one byte, by the steps that are left. -/
namespace Go.Proofs.YtmhghkgcfgacdaaGreat.Tk
open Go.ChangeShapes Go.WideShapes Go.ChangeAt Go.RowKit
open Go.Proofs.YtmhghkgcfgacdaaGreat.Le Go.Proofs.YtmhghkgcfgacdaaGreat.Sr
set_option linter.unusedVariables false

/-- n further steps are done. -/
def stp (x : St) (n : Nat) : St := { x with st := x.st + n }
/-- All steps are done, and one more was refused. -/
def spent (x : St) : St := { x with st := x.s, r := 3, a := 1 }
theorem stp_0 (x : St) : stp x 0 = x := by simp [stp]
theorem stp_stp (x : St) (a b : Nat) : stp (stp x a) b = stp x (a + b) := by simp [stp, Int.add_assoc]
theorem stp_spent (x : St) (n : Nat) : spent (stp x n) = spent x := rfl
theorem stp_r (x : St) (n : Nat) : (stp x n).r = x.r := rfl
theorem stp_s (x : St) (n : Nat) : (stp x n).s = x.s := rfl
theorem stp_st (x : St) (n : Nat) : (stp x n).st = x.st + n := rfl
theorem work_one {x : St} (hr : x.r = 0) (h : x.st + 1 ≤ x.s) : x.work 1 = (stp x 1, true) := by
  unfold St.work
  rw [if_neg (by simpa using hr), if_neg (by omega)]
  rfl
theorem work_none {x : St} (ok : x.Ok) (hr : x.r = 0) (h : x.s < x.st + 1) : x.work 1 = (spent x, false) := by
  have := ok.ts
  have e : x.st = x.s := by omega
  unfold St.work
  rw [if_neg (by simpa using hr), if_pos (by omega), St.refuse, if_pos hr]
  unfold spent
  rw [← e]

/-- A source of the ledger l over all of the text s, at p; the ledger's state is x. -/
structure Rd (c l : Nat) (s : ByteArray) (p : Nat) (x : St) (w : World) : Prop where
  so : So c l s p 0 s.size w
  led : Led l x.ls w
  ok : x.Ok
theorem Rd.grown {c l : Nat} {s : ByteArray} {p : Nat} {x : St} {w w' : World} (h : Rd c l s p x w) (g : w.grownBy w' none) : Rd c l s p x w' :=
  ⟨h.so.grown g (by simp), h.led.grown g (by simp), h.ok⟩

theorem Rd.st {c l : Nat} {s : ByteArray} {p : Nat} {x : St} {w : World} {k i : Nat} {v : Value} (h : Rd c l s p x w) (hc : c ≠ k) (hl : l ≠ k) : Rd c l s p x (w.setCell ⟨k, i, none⟩ v) :=
  ⟨⟨blk_other h.so.blk hc, h.so.bl, h.so.fp, h.so.pt, h.so.ts, h.so.big⟩, h.led.oth hl, h.ok⟩
theorem Rd.clt {c l : Nat} {s : ByteArray} {p : Nat} {x : St} {w : World} (h : Rd c l s p x w) : c < w.heap.size := h.so.lt
theorem Rd.llt {c l : Nat} {s : ByteArray} {p : Nat} {x : St} {w : World} (h : Rd c l s p x w) : l < w.heap.size := h.led.lt
/-- A block made since may be written. -/
theorem Tn.own1 {a b : World} {S : List Nat} {k i : Nat} {v : Value} (h : Tn a b S) (hk : a.heap.size ≤ k) : Tn a (b.setCell ⟨k, i, none⟩ v) S :=
  h.over (Tn.set b k i v (List.mem_singleton.2 rfl)) (fun x hx => .inl (by rw [List.mem_singleton] at hx; omega))

/-- Block r is a fault. -/
def Fl (r : Nat) (k f a : Int) (w : World) : Prop := w.heap[r]? = some (.cells #[.int .i64 k, .int .i64 f, .int .i64 a] 29 (0, 0))
theorem Fl.c0 {r : Nat} {k f a : Int} {w : World} (h : Fl r k f a w) : w.cell? ⟨r, 0, none⟩ = some (.int .i64 k) := blk_cell h 0
theorem Fl.c1 {r : Nat} {k f a : Int} {w : World} (h : Fl r k f a w) : w.cell? ⟨r, 1, none⟩ = some (.int .i64 f) := blk_cell h 1
theorem Fl.c2 {r : Nat} {k f a : Int} {w : World} (h : Fl r k f a w) : w.cell? ⟨r, 2, none⟩ = some (.int .i64 a) := blk_cell h 2
theorem Fl.free {r : Nat} {k f a : Int} {w : World} (h : Fl r k f a w) (o : Nat) : w.frozen? ⟨r, o, none⟩ = false := blk_free h o
theorem Fl.lt {r : Nat} {k f a : Int} {w : World} (h : Fl r k f a w) : r < w.heap.size := blk_lt h
theorem Fl.turned {r : Nat} {k f a : Int} {w w' : World} {S : List Nat} (h : Fl r k f a w) (t : Tn w w' S) (h1 : r ∉ S) : Fl r k f a w' := (t.block r h.lt h1).trans h
theorem Fl.set {r : Nat} {k f a : Int} {w : World} (h : Fl r k f a w) (k' f' a' : Int) : Fl r k' f' a' (((w.setCell ⟨r, 0, none⟩ (.int .i64 k')).setCell ⟨r, 1, none⟩ (.int .i64 f')).setCell ⟨r, 2, none⟩ (.int .i64 a')) :=
  blk_set (blk_set (blk_set h 0 (.int .i64 k')) 1 (.int .i64 f')) 2 (.int .i64 a')
theorem Fl.new (w : World) : Fl w.heap.size 0 0 0 (w.alloc (.cells #[.int .i64 0, .int .i64 0, .int .i64 0] 29)) := blk_at

theorem get_congr (a b : List UInt8) (e : a = b) (i : Nat) : a.getD i 0 = b.getD i 0 := by rw [e]
theorem byte_numV (s : ByteArray) (p : Nat) (h : p < s.size) : Sr.numV false (s.extract p (p + 1)) = bt s p := by
  have hl : (s.extract p (p + 1)).data.toList = [s.data.toList.getD p 0] := by
    rw [Lib.extract_data]
    have h2 : p < s.data.toList.length := by rw [← Lib.size_eq]; exact h
    rw [show p + 1 - p = 1 from by omega]
    rw [List.getD_eq_getElem?_getD, List.getElem?_eq_getElem h2]
    rw [List.drop_eq_getElem_cons h2]
    rfl
  unfold Sr.numV
  rw [hl]
  simp [acc, ordd, bt]

theorem u8_byte (c l : Nat) (s : ByteArray) (p : Nat) (x : St) (w : World) (h : Rd c l s p x w) (hr : x.r = 0) (hk : x.st + 1 ≤ x.s) (hp : p < s.size) :
    Calls Tryz.prog 72 #[.pointer (some ⟨c, 0, none⟩)] w
      fun e w' => e = .returned (.tuple #[.int .i64 (bt s p), .bool true]) ∧ Rd c l s (p + 1) (stp x 1) w' ∧ Tn w w' [c, l] := by
  have hw := work_one hr hk
  have hn : rdB x p s.size 1 = true := by
    unfold rdB
    rw [hw]
    simp [canB]
    omega
  refine (u8_yes c l s p 0 s.size x w h.so h.led h.ok hn).mono fun e w' ⟨he, ⟨S, L⟩, t⟩ => ⟨?_, ⟨S, ?_, ?_⟩, t⟩
  · rw [he, byte_numV s p hp]
  · rw [hw] at L
    exact L
  · have := h.ok.work 1
    rw [hw] at this
    exact this

theorem u8_over (c l : Nat) (s : ByteArray) (p : Nat) (x : St) (w : World) (h : Rd c l s p x w) (hr : x.r = 0) (hk : x.st + 1 ≤ x.s) (hp : s.size ≤ p) :
    Calls Tryz.prog 72 #[.pointer (some ⟨c, 0, none⟩)] w
      fun e w' => e = .returned (.tuple #[.int .i64 0, .bool false]) ∧ Rd c l s p (stp x 1) w' ∧ Tn w w' [c, l] := by
  have hw := work_one hr hk
  have hn : rdB x p s.size 1 = false := by
    unfold rdB
    rw [hw]
    simp [canB]
    omega
  refine (u8_no c l s p 0 s.size x w h.so h.led h.ok hn).mono fun e w' ⟨he, ⟨S, L⟩, t⟩ => ⟨he, ⟨S, ?_, ?_⟩, Tn.gb t (by simp)⟩
  · rw [hw] at L
    exact L
  · have := h.ok.work 1
    rw [hw] at this
    exact this

theorem u8_spent (c l : Nat) (s : ByteArray) (p : Nat) (x : St) (w : World) (h : Rd c l s p x w) (hr : x.r = 0) (hk : x.s < x.st + 1) :
    Calls Tryz.prog 72 #[.pointer (some ⟨c, 0, none⟩)] w
      fun e w' => e = .returned (.tuple #[.int .i64 0, .bool false]) ∧ Rd c l s p (spent x) w' ∧ Tn w w' [c, l] := by
  have hw := work_none h.ok hr hk
  have hn : rdB x p s.size 1 = false := by
    unfold rdB
    rw [hw]
    rfl
  refine (u8_no c l s p 0 s.size x w h.so h.led h.ok hn).mono fun e w' ⟨he, ⟨S, L⟩, t⟩ => ⟨he, ⟨S, ?_, ?_⟩, Tn.gb t (by simp)⟩
  · rw [hw] at L
    exact L
  · have := h.ok.work 1
    rw [hw] at this
    exact this

/-- Why a reading failed. -/
theorem fault_spent (c l : Nat) (s : ByteArray) (p : Nat) (x : St) (k : Int) (w : World) (h : Rd c l s p (spent x) w) :
    Calls Tryz.prog 63 #[.pointer (some ⟨c, 0, none⟩), .int .i64 k] w
      fun e w' => e = .returned (.agg #[.int .i64 4, .int .i64 k, .int .i64 p]) ∧ Rd c l s p (spent x) w' ∧ w.grownBy w' none :=
  (fault_calls c l s p 0 s.size (spent x) k w h.so h.led).mono fun e w' ⟨he, g⟩ => ⟨by rw [he, if_neg (by show ¬ (3 : Int) = 0; decide)], h.grown g, g⟩

theorem fault_end (c l : Nat) (s : ByteArray) (p : Nat) (x : St) (k : Int) (w : World) (h : Rd c l s p x w) (hr : x.r = 0) :
    Calls Tryz.prog 63 #[.pointer (some ⟨c, 0, none⟩), .int .i64 k] w
      fun e w' => e = .returned (.agg #[.int .i64 1, .int .i64 k, .int .i64 s.size]) ∧ Rd c l s p x w' ∧ w.grownBy w' none :=
  (fault_calls c l s p 0 s.size x k w h.so h.led).mono fun e w' ⟨he, g⟩ => ⟨by rw [he, if_pos hr], h.grown g, g⟩

theorem left_rd (c l : Nat) (s : ByteArray) (p : Nat) (x : St) (w : World) (h : Rd c l s p x w) :
    Calls Tryz.prog 109 #[.pointer (some ⟨c, 0, none⟩)] w fun e w' => e = .returned (.int .i64 ((s.size : Int) - p)) ∧ Rd c l s p x w' ∧ Tn w w' [c, l] :=
  (left_calls c l s p 0 s.size w h.so).mono fun e w' ⟨he, n, hw⟩ => ⟨he, hw ▸ h.grown (gb_drewN _ _ _), hw ▸ Tn.gb (gb_drewN _ _ none) (by simp)⟩

theorem at_rd (c l : Nat) (s : ByteArray) (p : Nat) (x : St) (w : World) (h : Rd c l s p x w) :
    Calls Tryz.prog 27 #[.pointer (some ⟨c, 0, none⟩)] w fun e w' => e = .returned (.int .i64 p) ∧ w = w' :=
  at_calls c l s p 0 s.size w h.so

end Go.Proofs.YtmhghkgcfgacdaaGreat.Tk

/- Layer 5's answers: numbers of bytes; and the chapter's example. -/
namespace Go.Proofs.YtmhghkgcfgacdaaGreat.Sr
open Go.ChangeShapes Go.WideShapes Go.ChangeAt Go.RowKit
open Go.Proofs.YtmhghkgcfgacdaaGreat.Le
set_option linter.unusedVariables false

set_option maxRecDepth 100000 in
set_option maxHeartbeats 2000000 in
theorem rbe_calls (z : ByteArray) (w : World) (hz : z.size ≤ 4) :
    Calls Tryz.prog 19 #[.string z] w fun e w' => e = .returned (.int .i64 (numV true z)) ∧ w = w' := by
  have HL := Lib.hid (Lib.size_eq z)
  go_enter Tryz.func19, Tryz.ntmps19
  go_wp2_with fail
  go_loopg [3, 4] z.size (fun q vv iv wr => ∃ k : Nat, k ≤ z.size ∧ q = z.size - k ∧ vv = .int .i64 (acc ((ordd true z.data.toList).take k)) ∧ iv = .int .i64 k ∧ w = wr)
  case atStart => exact ⟨0, by omega, rfl, rfl, rfl, rfl⟩
  case round =>
    obtain ⟨k, hk, rfl, rfl, rfl, rfl⟩ := hrel
    by_cases hlt : k < z.size
    · have hl := HL.out
      have st := acc_step true z.data.toList k (by omega)
      have lt := Nat.lt_of_lt_of_le (acc_lt ((ordd true z.data.toList).take k)) (Nat.pow_le_pow_right (by decide) (show _ ≤ 3 from by rw [List.length_take]; omega))
      obtain ⟨v, hv⟩ : ∃ v, acc ((ordd true z.data.toList).take k) = v := ⟨_, rfl⟩
      rw [hv] at st lt ⊢
      have hi : nxt true z.data.toList.length k = k := rfl
      simp only [hi] at st
      rw [byte_at' z k hlt (by omega)] at st
      have b255 := (z[k]'hlt).toNat_lt
      obtain ⟨c, hcz⟩ : ∃ c, (z[k]'hlt).toNat = c := ⟨_, rfl⟩
      rw [hcz] at st b255
      have ST := Lib.hid st
      clear st hv hi hl
      go_wp2
      go_roundg (z.size - (k + 1))
      case measure => omega
      case rel => exact ⟨k + 1, by omega, rfl, by rw [ST.out]; go_num, by go_num, rfl⟩
    · have hl := HL.out
      have hkn : k = z.size := by omega
      have e1 : (ordd true z.data.toList).take k = ordd true z.data.toList := List.take_of_length_le (by rw [ordd_len]; omega)
      rw [e1]
      clear e1 hl
      go_wp2
      go_ret
      exact ⟨rfl, rfl⟩

theorem num_lt (o : Bool) (z : ByteArray) (h : z.size ≤ 4) : numV o z < 4294967296 := acc_lt4 _ (by rw [ordd_len, ← Lib.size_eq]; exact h)

/-- A ledger of m steps of which n are done; nothing was refused. -/
def LW (m n : Int) : St := { w := 0, h := 0, b := 0, s := m, by_ := 0, pk := 0, st := n, r := 0, a := 0 }
theorem LW_ok {m n : Int} (hm : m ≤ 9223372036854775807) (n0 : 0 ≤ n) (nm : n ≤ m) : (LW m n).Ok :=
  ⟨by show (0 : Int) ≤ 0; decide, by show (0 : Int) ≤ _; decide, by show (0 : Int) ≤ 0; decide, by show (0 : Int) ≤ _; decide, by show (0 : Int) ≤ _; decide, hm, Int.le_refl _, Int.le_refl _, Int.le_refl _, n0, nm, by show (0 : Int) ≤ 0; decide, by show (0 : Int) ≤ 3; decide⟩
theorem LW_work {m n : Int} (h : n < m) : (LW m n).work 1 = (LW m (n + 1), true) := by
  unfold St.work
  rw [if_neg (by simp [LW]), if_neg (by simp only [LW]; omega)]
  simp [LW]
theorem LW_new {m : Int} (h : 0 ≤ m) : St.new 0 0 0 m = LW m 0 := by
  have e : pos m = m := by unfold pos; rw [if_neg (by omega)]
  have e0 : pos 0 = 0 := rfl
  simp [St.new, LW, e, e0]
theorem LW_rd {m k : Int} {p t : Nat} {n : Int} (h : k < m) (h0 : 0 ≤ n) (h1 : n ≤ (t : Int) - p) : rdB (LW m k) p t n = true := by
  unfold rdB
  rw [LW_work h]
  simp [canB, h0, h1]
theorem LW_out {m k : Int} {p t : Nat} {n : Int} (h : k < m) (h1 : n < 0 ∨ (t : Int) - p < n) : rdB (LW m k) p t n = false := by
  unfold rdB
  rw [LW_work h]
  rcases h1 with h1 | h1
  · simp [canB, show ¬ 0 ≤ n from by omega]
  · simp [canB, show ¬ n ≤ (t : Int) - p from by omega]

/-- A new ledger of m steps. -/
theorem wnew_calls (m : Int) (h0 : 0 ≤ m) (w : World) :
    Calls Tryz.prog 20 #[.agg #[.int .i64 0, .int .i64 0, .int .i64 0, .int .i64 m]] w
      fun e w' => ∃ b, e = .returned (.pointer (some ⟨b, 0, none⟩)) ∧ Led b (LW m 0).ls w' ∧ w.grownBy w' none ∧ w.heap.size ≤ b := by
  have h := new_calls 0 0 0 m w
  rwa [LW_new h0] at h

end Go.Proofs.YtmhghkgcfgacdaaGreat.Sr
