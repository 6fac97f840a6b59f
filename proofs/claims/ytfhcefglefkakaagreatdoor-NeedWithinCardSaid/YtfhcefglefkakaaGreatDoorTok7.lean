/- Readings of one byte, by the steps that are left. -/
import Derived.Test.YtfhcefglefkakaaGreatDoorSrc5
import Derived.Test.YtfhcefglefkakaaGreatDoorTok2
namespace Go.Proofs.YtfhcefglefkakaaGreatDoor.Tk
open Go.ChangeShapes Go.WideShapes Go.ChangeAt Go.RowKit
open Go.Proofs.YtfhcefglefkakaaGreatDoor.Le Go.Proofs.YtfhcefglefkakaaGreatDoor.Sr
set_option linter.unusedVariables false

/-- n further steps are done. -/
def stp (x : St) (n : Nat) : St := { x with st := x.st + n }
/-- All steps are done, and one more was refused. -/
def spent (x : St) : St := { x with st := x.s, r := 3, a := 1 }
theorem stp_0 (x : St) : stp x 0 = x := by simp [stp]
theorem stp_stp (x : St) (a b : Nat) : stp (stp x a) b = stp x (a + b) := by simp [stp, Int.add_assoc]
theorem stp_spent (x : St) (n : Nat) : spent (stp x n) = spent x := rfl
theorem stp_r (x : St) (n : Nat) : (stp x n).r = x.r := rfl
theorem stp_s (x : St) (n : Nat) : (stp x n).s = x.s := rfl
theorem stp_st (x : St) (n : Nat) : (stp x n).st = x.st + n := rfl
theorem work_one {x : St} (hr : x.r = 0) (h : x.st + 1 ≤ x.s) : x.work 1 = (stp x 1, true) := by
  unfold St.work
  rw [if_neg (by simpa using hr), if_neg (by omega)]
  rfl
theorem work_none {x : St} (ok : x.Ok) (hr : x.r = 0) (h : x.s < x.st + 1) : x.work 1 = (spent x, false) := by
  have := ok.ts
  have e : x.st = x.s := by omega
  unfold St.work
  rw [if_neg (by simpa using hr), if_pos (by omega), St.refuse, if_pos hr]
  unfold spent
  rw [← e]

/-- A source of the ledger l over all of the text s, at p; the ledger's state is x. -/
structure Rd (c l : Nat) (s : ByteArray) (p : Nat) (x : St) (w : World) : Prop where
  so : So c l s p 0 s.size w
  led : Led l x.ls w
  ok : x.Ok
theorem Rd.grown {c l : Nat} {s : ByteArray} {p : Nat} {x : St} {w w' : World} (h : Rd c l s p x w) (g : w.grownBy w' none) : Rd c l s p x w' :=
  ⟨h.so.grown g (by simp), h.led.grown g (by simp), h.ok⟩

theorem Rd.st {c l : Nat} {s : ByteArray} {p : Nat} {x : St} {w : World} {k i : Nat} {v : Value} (h : Rd c l s p x w) (hc : c ≠ k) (hl : l ≠ k) : Rd c l s p x (w.setCell ⟨k, i, none⟩ v) :=
  ⟨⟨blk_other h.so.blk hc, h.so.bl, h.so.fp, h.so.pt, h.so.ts, h.so.big⟩, h.led.oth hl, h.ok⟩
theorem Rd.clt {c l : Nat} {s : ByteArray} {p : Nat} {x : St} {w : World} (h : Rd c l s p x w) : c < w.heap.size := h.so.lt
theorem Rd.llt {c l : Nat} {s : ByteArray} {p : Nat} {x : St} {w : World} (h : Rd c l s p x w) : l < w.heap.size := h.led.lt
/-- A block made since may be written. -/
theorem Tn.own1 {a b : World} {S : List Nat} {k i : Nat} {v : Value} (h : Tn a b S) (hk : a.heap.size ≤ k) : Tn a (b.setCell ⟨k, i, none⟩ v) S :=
  h.over (Tn.set b k i v (List.mem_singleton.2 rfl)) (fun x hx => .inl (by rw [List.mem_singleton] at hx; omega))

/-- Block r is a fault. -/
def Fl (r : Nat) (k f a : Int) (w : World) : Prop := w.heap[r]? = some (.cells #[.int .i64 k, .int .i64 f, .int .i64 a] 36 (0, 0))
theorem Fl.c0 {r : Nat} {k f a : Int} {w : World} (h : Fl r k f a w) : w.cell? ⟨r, 0, none⟩ = some (.int .i64 k) := blk_cell h 0
theorem Fl.c1 {r : Nat} {k f a : Int} {w : World} (h : Fl r k f a w) : w.cell? ⟨r, 1, none⟩ = some (.int .i64 f) := blk_cell h 1
theorem Fl.c2 {r : Nat} {k f a : Int} {w : World} (h : Fl r k f a w) : w.cell? ⟨r, 2, none⟩ = some (.int .i64 a) := blk_cell h 2
theorem Fl.free {r : Nat} {k f a : Int} {w : World} (h : Fl r k f a w) (o : Nat) : w.frozen? ⟨r, o, none⟩ = false := blk_free h o
theorem Fl.lt {r : Nat} {k f a : Int} {w : World} (h : Fl r k f a w) : r < w.heap.size := blk_lt h
theorem Fl.turned {r : Nat} {k f a : Int} {w w' : World} {S : List Nat} (h : Fl r k f a w) (t : Tn w w' S) (h1 : r ∉ S) : Fl r k f a w' := (t.block r h.lt h1).trans h
theorem Fl.set {r : Nat} {k f a : Int} {w : World} (h : Fl r k f a w) (k' f' a' : Int) : Fl r k' f' a' (((w.setCell ⟨r, 0, none⟩ (.int .i64 k')).setCell ⟨r, 1, none⟩ (.int .i64 f')).setCell ⟨r, 2, none⟩ (.int .i64 a')) :=
  blk_set (blk_set (blk_set h 0 (.int .i64 k')) 1 (.int .i64 f')) 2 (.int .i64 a')
theorem Fl.new (w : World) : Fl w.heap.size 0 0 0 (w.alloc (.cells #[.int .i64 0, .int .i64 0, .int .i64 0] 36)) := blk_at

theorem get_congr (a b : List UInt8) (e : a = b) (i : Nat) : a.getD i 0 = b.getD i 0 := by rw [e]
theorem byte_numV (s : ByteArray) (p : Nat) (h : p < s.size) : Sr.numV false (s.extract p (p + 1)) = bt s p := by
  have hl : (s.extract p (p + 1)).data.toList = [s.data.toList.getD p 0] := by
    rw [Lib.extract_data]
    have h2 : p < s.data.toList.length := by rw [← Lib.size_eq]; exact h
    rw [show p + 1 - p = 1 from by omega]
    rw [List.getD_eq_getElem?_getD, List.getElem?_eq_getElem h2]
    rw [List.drop_eq_getElem_cons h2]
    rfl
  unfold Sr.numV
  rw [hl]
  simp [acc, ordd, bt]

theorem u8_byte (c l : Nat) (s : ByteArray) (p : Nat) (x : St) (w : World) (h : Rd c l s p x w) (hr : x.r = 0) (hk : x.st + 1 ≤ x.s) (hp : p < s.size) :
    Calls Tryz.prog 121 #[.pointer (some ⟨c, 0, none⟩)] w
      fun e w' => e = .returned (.tuple #[.int .i64 (bt s p), .bool true]) ∧ Rd c l s (p + 1) (stp x 1) w' ∧ Tn w w' [c, l] := by
  have hw := work_one hr hk
  have hn : rdB x p s.size 1 = true := by
    unfold rdB
    rw [hw]
    simp [canB]
    omega
  refine (u8_yes c l s p 0 s.size x w h.so h.led h.ok hn).mono fun e w' ⟨he, ⟨S, L⟩, t⟩ => ⟨?_, ⟨S, ?_, ?_⟩, t⟩
  · rw [he, byte_numV s p hp]
  · rw [hw] at L
    exact L
  · have := h.ok.work 1
    rw [hw] at this
    exact this

theorem u8_over (c l : Nat) (s : ByteArray) (p : Nat) (x : St) (w : World) (h : Rd c l s p x w) (hr : x.r = 0) (hk : x.st + 1 ≤ x.s) (hp : s.size ≤ p) :
    Calls Tryz.prog 121 #[.pointer (some ⟨c, 0, none⟩)] w
      fun e w' => e = .returned (.tuple #[.int .i64 0, .bool false]) ∧ Rd c l s p (stp x 1) w' ∧ Tn w w' [c, l] := by
  have hw := work_one hr hk
  have hn : rdB x p s.size 1 = false := by
    unfold rdB
    rw [hw]
    simp [canB]
    omega
  refine (u8_no c l s p 0 s.size x w h.so h.led h.ok hn).mono fun e w' ⟨he, ⟨S, L⟩, t⟩ => ⟨he, ⟨S, ?_, ?_⟩, Tn.gb t (by simp)⟩
  · rw [hw] at L
    exact L
  · have := h.ok.work 1
    rw [hw] at this
    exact this

theorem u8_spent (c l : Nat) (s : ByteArray) (p : Nat) (x : St) (w : World) (h : Rd c l s p x w) (hr : x.r = 0) (hk : x.s < x.st + 1) :
    Calls Tryz.prog 121 #[.pointer (some ⟨c, 0, none⟩)] w
      fun e w' => e = .returned (.tuple #[.int .i64 0, .bool false]) ∧ Rd c l s p (spent x) w' ∧ Tn w w' [c, l] := by
  have hw := work_none h.ok hr hk
  have hn : rdB x p s.size 1 = false := by
    unfold rdB
    rw [hw]
    rfl
  refine (u8_no c l s p 0 s.size x w h.so h.led h.ok hn).mono fun e w' ⟨he, ⟨S, L⟩, t⟩ => ⟨he, ⟨S, ?_, ?_⟩, Tn.gb t (by simp)⟩
  · rw [hw] at L
    exact L
  · have := h.ok.work 1
    rw [hw] at this
    exact this

/-- Why a reading failed. -/
theorem fault_spent (c l : Nat) (s : ByteArray) (p : Nat) (x : St) (k : Int) (w : World) (h : Rd c l s p (spent x) w) :
    Calls Tryz.prog 51 #[.pointer (some ⟨c, 0, none⟩), .int .i64 k] w
      fun e w' => e = .returned (.agg #[.int .i64 4, .int .i64 k, .int .i64 p]) ∧ Rd c l s p (spent x) w' ∧ w.grownBy w' none :=
  (fault_calls c l s p 0 s.size (spent x) k w h.so h.led).mono fun e w' ⟨he, g⟩ => ⟨by rw [he, if_neg (by show ¬ (3 : Int) = 0; decide)], h.grown g, g⟩

theorem fault_end (c l : Nat) (s : ByteArray) (p : Nat) (x : St) (k : Int) (w : World) (h : Rd c l s p x w) (hr : x.r = 0) :
    Calls Tryz.prog 51 #[.pointer (some ⟨c, 0, none⟩), .int .i64 k] w
      fun e w' => e = .returned (.agg #[.int .i64 1, .int .i64 k, .int .i64 s.size]) ∧ Rd c l s p x w' ∧ w.grownBy w' none :=
  (fault_calls c l s p 0 s.size x k w h.so h.led).mono fun e w' ⟨he, g⟩ => ⟨by rw [he, if_pos hr], h.grown g, g⟩

theorem left_rd (c l : Nat) (s : ByteArray) (p : Nat) (x : St) (w : World) (h : Rd c l s p x w) :
    Calls Tryz.prog 147 #[.pointer (some ⟨c, 0, none⟩)] w fun e w' => e = .returned (.int .i64 ((s.size : Int) - p)) ∧ Rd c l s p x w' ∧ Tn w w' [c, l] :=
  (left_calls c l s p 0 s.size w h.so).mono fun e w' ⟨he, n, hw⟩ => ⟨he, hw ▸ h.grown (gb_drewN _ _ _), hw ▸ Tn.gb (gb_drewN _ _ none) (by simp)⟩

theorem at_rd (c l : Nat) (s : ByteArray) (p : Nat) (x : St) (w : World) (h : Rd c l s p x w) :
    Calls Tryz.prog 49 #[.pointer (some ⟨c, 0, none⟩)] w fun e w' => e = .returned (.int .i64 p) ∧ w = w' :=
  at_calls c l s p 0 s.size w h.so

theorem seek_rd (c l : Nat) (s : ByteArray) (p q : Nat) (x : St) (w : World) (h : Rd c l s p x w) (hq : q ≤ s.size) :
    Calls Tryz.prog 155 #[.pointer (some ⟨c, 0, none⟩), .int .i64 q] w fun e w' => e = .returned (.bool true) ∧ Rd c l s q x w' ∧ Tn w w' [c, l] :=
  (seek_yes c l s p 0 s.size q w h.so (Nat.zero_le _) hq).mono fun e w' ⟨he, S, g⟩ => ⟨he, ⟨S, h.led.grown g (by simpa using h.so.bl.symm), h.ok⟩, Tn.gb g (by simp)⟩

end Go.Proofs.YtfhcefglefkakaaGreatDoor.Tk
