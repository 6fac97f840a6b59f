/- Layer 4's document's answers: so many times one byte, do bytes stand there, bytes laid over others; a ledger that counts; and the chapter's example. -/
import Derived.Test.YtljbhahdaepecaaBuf6
namespace Go.Proofs.Ytljbhahdaepecaa.Bu
open Go.ChangeShapes Go.WideShapes Go.ChangeAt Go.RowKit
open Go.Proofs.Ytljbhahdaepecaa.Le
set_option linter.unusedVariables false

/-- A ledger of m bytes of which n are kept, pk at most till now; nothing was refused. -/
def LT (m pk n : Int) : St := { w := 0, h := 0, b := m, s := 0, by_ := n, pk := pk, st := 0, r := 0, a := 0 }
theorem LT_ok {m pk n : Int} (hm : m ≤ 9223372036854775807) (n0 : 0 ≤ n) (np : n ≤ pk) (pm : pk ≤ m) : (LT m pk n).Ok :=
  ⟨by show (0 : Int) ≤ 0; decide, by show (0 : Int) ≤ _; decide, by show (0 : Int) ≤ 0; decide, by show (0 : Int) ≤ _; decide, hm, by show (0 : Int) ≤ _; decide, n0, np, pm, by show (0 : Int) ≤ 0; decide, by show (0 : Int) ≤ 0; decide, by show (0 : Int) ≤ 0; decide, by show (0 : Int) ≤ 3; decide⟩
theorem LT_take {m pk n k : Int} (k0 : 0 ≤ k) (h : n + k ≤ m) : (LT m pk n).take k = (LT m (up pk (n + k)) (n + k), true) := by
  unfold St.take
  rw [if_neg (by simp [LT]), if_neg (by simp only [LT]; omega)]
  simp [LT]
theorem LT_give {m pk n k : Int} (k0 : 0 ≤ k) (h : k ≤ n) : (LT m pk n).give k = (LT m pk (n - k), true) := by
  unfold St.give
  rw [if_neg (by simp only [LT]; omega)]
  simp [LT]

/-- Ledger l, of m bytes, keeps n, and has refused nothing. -/
def Keeps (l : Nat) (m n : Int) (w : World) : Prop := ∃ pk, 0 ≤ n ∧ n ≤ pk ∧ pk ≤ m ∧ m ≤ 9223372036854775807 ∧ Led l (LT m pk n).ls w
theorem Keeps.lt {l : Nat} {m n : Int} {w : World} (h : Keeps l m n w) : l < w.heap.size := by
  obtain ⟨pk, _, _, _, _, h⟩ := h
  exact h.lt
theorem Keeps.grown {l : Nat} {m n : Int} {w w' : World} {r : Option Nat} (h : Keeps l m n w) (k : w.grownBy w' r) (h1 : some l ≠ r) : Keeps l m n w' := by
  obtain ⟨pk, a, b, c, d, h⟩ := h
  exact ⟨pk, a, b, c, d, h.grown k h1⟩
theorem Keeps.turned {l : Nat} {m n : Int} {w w' : World} {S : List Nat} (h : Keeps l m n w) (k : Tn w w' S) (h1 : l ∉ S) : Keeps l m n w' := by
  obtain ⟨pk, a, b, c, d, h⟩ := h
  exact ⟨pk, a, b, c, d, (k.block l h.lt h1).trans h⟩
theorem BOpen.turned {b l g : Nat} {s : ByteArray} {w w' : World} {S : List Nat} (h : BOpen b l g s w) (k : Tn w w' S) (h1 : b ∉ S) (h2 : g ∉ S) : BOpen b l g s w' :=
  ⟨(k.block b h.lt h1).trans h.blk, (k.block g h.glt h2).trans h.byt, h.big, h.bl, h.bg, h.gl⟩
theorem BShut.turned {b l : Nat} {w w' : World} {S : List Nat} (h : BShut b l w) (k : Tn w w' S) (h1 : b ∉ S) : BShut b l w' := ⟨(k.block b h.lt h1).trans h.blk, h.bl⟩

theorem new_k (m : Int) (m0 : 0 ≤ m) (m1 : m ≤ 9223372036854775807) (w : World) :
    Calls Try.prog 12 #[.agg #[.int .i64 0, .int .i64 0, .int .i64 m, .int .i64 0]] w
      fun e w' => ∃ l, e = .returned (.pointer (some ⟨l, 0, none⟩)) ∧ Keeps l m 0 w' ∧ w.grownBy w' none ∧ w.heap.size ≤ l := by
  refine (new_calls 0 0 m 0 w).mono ?_
  rintro e w' ⟨l, he, hl, g, hs⟩
  have e1 : St.new 0 0 m 0 = LT m 0 0 := by
    have h : pos m = m := by unfold pos; rw [if_neg (by omega)]
    have h0 : pos 0 = 0 := rfl
    simp [St.new, LT, h, h0]
  rw [e1] at hl
  exact ⟨l, he, ⟨0, Int.le_refl _, Int.le_refl _, m0, m1, hl⟩, g, hs⟩
theorem bytes_k (l : Nat) (m n : Int) (w : World) (h : Keeps l m n w) :
    Calls Try.prog 14 #[.pointer (some ⟨l, 0, none⟩)] w fun e w' => e = .returned (.int .i64 n) ∧ w = w' := by
  obtain ⟨pk, _, _, _, _, h⟩ := h
  exact bytes_calls l (LT m pk n).ls w h
theorem make_k (l : Nat) (m n : Int) (k : Nat) (w : World) (h : Keeps l m n w) (hk : k ≤ 2147483647) (hm : n + k ≤ m) :
    Calls Try.prog 26 #[.pointer (some ⟨l, 0, none⟩), .int .i64 k] w
      fun e w' => ∃ b g, e = .returned (.tuple #[.pointer (some ⟨b, 0, none⟩), .int .i64 0]) ∧ (BOpen b l g (rep 0 k) w' ∧ Keeps l m (n + k) w') ∧ w.grownBy w' (some l) ∧ w.heap.size ≤ b ∧ w.heap.size ≤ g := by
  obtain ⟨pk, h1, h2, h3, h4, h⟩ := h
  have e1 := LT_take (m := m) (pk := pk) (n := n) (k := (k : Int)) (by omega) hm
  refine (make_yes l (LT m pk n) k w h (LT_ok h4 h1 h2 h3) hk (by rw [e1])).mono ?_
  rintro e w' ⟨b, g, he, ⟨ho, hl⟩, hg, hb, hg2⟩
  rw [e1] at hl
  exact ⟨b, g, he, ⟨ho, ⟨_, by omega, (up_ge _ _).1, up_le h3 hm, h4, hl⟩⟩, hg, hb, hg2⟩
theorem free_k (b l g : Nat) (s : ByteArray) (m n : Int) (w : World) (h : BOpen b l g s w) (hl : Keeps l m n w) (hs : s.size ≤ n) :
    Calls Try.prog 33 #[.pointer (some ⟨b, 0, none⟩)] w
      fun e w' => e = .returned (.bool true) ∧ (BShut b l w' ∧ Keeps l m (n - s.size) w') ∧ Tn w w' [b, l] := by
  obtain ⟨pk, h1, h2, h3, h4, hl⟩ := hl
  have e1 := LT_give (m := m) (pk := pk) (n := n) (k := (s.size : Int)) (by omega) hs
  refine (free_yes b l g s (LT m pk n) w h hl (LT_ok h4 h1 h2 h3)).mono ?_
  rintro e w' ⟨he, ⟨ho, hl⟩, hg⟩
  rw [e1] at hl
  exact ⟨he, ⟨ho, ⟨pk, by omega, by omega, h3, h4, hl⟩⟩, hg⟩

theorem gb_own {a b c : World} {k : Nat} (h : a.grownBy b none) (hk : a.heap.size ≤ k) (g : b.grownBy c (some k)) : a.grownBy c none :=
  ⟨g.os.trans h.os, g.tape.trans h.tape, g.output.trans h.output, Nat.le_trans h.size g.size,
    fun i hi _ => (g.block i (Nat.lt_of_lt_of_le hi h.size) (by simp; omega)).trans (h.block i hi (by simp))⟩

theorem rep_snoc (v : UInt8) (k : Nat) : rep v k ++ one v = rep v (k + 1) := by
  apply ByteArray.ext
  apply Array.toList_inj.1
  rw [ByteArray.data_append, Array.toList_append, rep_list, rep_list, List.replicate_succ']
  rfl
theorem conv_one (v : UInt8) (w : World) :
    (convert 85 9 (.slice (some ⟨w.heap.size, 0, none⟩) 1 1)).run Try.prog (w.alloc (.cells #[.int .u8 (v.toNat : Int)] 5)) = .ok (.string (one v)) (w.alloc (.cells #[.int .u8 (v.toNat : Int)] 5)) := by
  have hc : Lib.Bytes (w.alloc (.cells #[.int .u8 (v.toNat : Int)] 5)) w.heap.size 0 (one v) := by
    intro i hi
    have hi0 : i = 0 := by have := one_size v; omega
    subst hi0
    exact blk_cell blk_at 0
  have h := Lib.run_convert_whole (P := Try.prog) (w.alloc (.cells #[.int .u8 (v.toNat : Int)] 5)) 85 5 9 und8 (by kernel_rfl) (by kernel_rfl) w.heap.size 0 (one v) hc 1
  rw [one_size] at h
  exact h

end Go.Proofs.Ytljbhahdaepecaa.Bu
