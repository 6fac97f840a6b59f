/- Package bits: a reader in memory; a byte is taken; parts of a byte. -/
import Derived.Test.YthgpjdnppknghaaSrc5
import Derived.Laws.BitsAllLaws
namespace Go.Proofs.Ythgpjdnppknghaa.Bi
open Go.ChangeShapes Go.WideShapes Go.ChangeAt Go.RowKit
open Go.Proofs.Ythgpjdnppknghaa.Le Go.Proofs.Ythgpjdnppknghaa.Sr
set_option linter.unusedVariables false

/-- The two orders' functions. -/
def cutF (low : Bool) : Value := .func (.func (if low then 44 else 46)) #[] #[]
def joinF (low : Bool) : Value := .func (.func (if low then 45 else 47)) #[] #[]
/-- The cells of a reader of the source c: the byte that was taken last, how many of its bits are left. -/
def BC (c : Nat) (last left : Int) (low : Bool) : Array Value := #[.pointer (some ⟨c, 0, none⟩), .int .i64 last, .int .i64 left, cutF low, joinF low]

/-- Block r is a reader of the source c. -/
structure Bt (r c : Nat) (last left : Int) (low : Bool) (w : World) : Prop where
  blk : w.heap[r]? = some (.cells (BC c last left low) 96 (0, 0))
  rc : r ≠ c

section
variable {r c : Nat} {last left : Int} {low : Bool} {w w' : World}
theorem Bt.lt (h : Bt r c last left low w) : r < w.heap.size := blk_lt h.blk
theorem Bt.grown {k : Option Nat} (h : Bt r c last left low w) (g : w.grownBy w' k) (h1 : some r ≠ k) : Bt r c last left low w' := ⟨(g.block r h.lt h1).trans h.blk, h.rc⟩
theorem Bt.turned {S : List Nat} (h : Bt r c last left low w) (g : Tn w w' S) (h1 : r ∉ S) : Bt r c last left low w' := ⟨(g.block r h.lt h1).trans h.blk, h.rc⟩
theorem Bt.c0 (h : Bt r c last left low w) : w.cell? ⟨r, 0, none⟩ = some (.pointer (some ⟨c, 0, none⟩)) := blk_cell h.blk 0
theorem Bt.c1 (h : Bt r c last left low w) : w.cell? ⟨r, 1, none⟩ = some (.int .i64 last) := blk_cell h.blk 1
theorem Bt.c2 (h : Bt r c last left low w) : w.cell? ⟨r, 2, none⟩ = some (.int .i64 left) := blk_cell h.blk 2
theorem Bt.c3 (h : Bt r c last left low w) : w.cell? ⟨r, 3, none⟩ = some (cutF low) := blk_cell h.blk 3
theorem Bt.c4 (h : Bt r c last left low w) : w.cell? ⟨r, 4, none⟩ = some (joinF low) := blk_cell h.blk 4
theorem Bt.free (h : Bt r c last left low w) (o : Nat) : w.frozen? ⟨r, o, none⟩ = false := blk_free h.blk o
theorem Bt.set1 (h : Bt r c last left low w) (v : Int) : Bt r c v left low (w.setCell ⟨r, 1, none⟩ (.int .i64 v)) := ⟨blk_set h.blk 1 (.int .i64 v), h.rc⟩
theorem Bt.set2 (h : Bt r c last left low w) (v : Int) : Bt r c last v low (w.setCell ⟨r, 2, none⟩ (.int .i64 v)) := ⟨blk_set h.blk 2 (.int .i64 v), h.rc⟩
end

theorem left_bits (r c : Nat) (last left : Int) (low : Bool) (w : World) (h : Bt r c last left low w) :
    Calls Try.prog 16 #[.pointer (some ⟨r, 0, none⟩)] w fun e w' => e = .returned (.int .i64 left) ∧ w = w' := by
  have d := h.c2
  clear h
  go_enter Try.func16, Try.ntmps16
  go_wp2
  go_ret
  exact ⟨rfl, rfl⟩
theorem align_bits (r c : Nat) (last left : Int) (low : Bool) (w : World) (h : Bt r c last left low w) :
    Calls Try.prog 17 #[.pointer (some ⟨r, 0, none⟩)] w fun e w' => e = .returned (.int .i64 left) ∧ Bt r c last 0 low w' ∧ w.grownBy w' (some r) := by
  have d := h.c2
  have z := h.free 2
  have H := Lib.hid h
  clear h
  go_enter Try.func17, Try.ntmps17
  go_wp2
  go_ret
  exact ⟨rfl, H.out.set2 0, gb_set _ _ _ _⟩
theorem bnew_nil (low : Bool) (w : World) :
    Calls Try.prog 14 #[.pointer none, .bool low] w fun e w' => e = .returned (.tuple #[.pointer none, .int .i64 1]) ∧ w = w' := by
  go_enter Try.func14, Try.ntmps14
  go_wp2
  go_ret2
  exact ⟨rfl, rfl⟩
theorem bnew_calls (c : Nat) (low : Bool) (w : World) :
    Calls Try.prog 14 #[.pointer (some ⟨c, 0, none⟩), .bool low] w
      fun e w' => ∃ r, e = .returned (.tuple #[.pointer (some ⟨r, 0, none⟩), .int .i64 0]) ∧ (c < w.heap.size → Bt r c 0 0 low w') ∧ w.grownBy w' none ∧ w.heap.size ≤ r := by
  cases low with
  | false =>
    go_enter Try.func14, Try.ntmps14
    go_wp2
    go_ret2
    exact ⟨w.heap.size, rfl, fun hc => ⟨blk_new w (BC c 0 0 false) 96, by omega⟩, World.grownBy_alloc _ _ _, Nat.le_refl _⟩
  | true =>
    go_enter Try.func14, Try.ntmps14
    go_wp2
    go_ret2
    exact ⟨w.heap.size, rfl, fun hc => ⟨blk_new w (BC c 0 0 true) 96, by omega⟩, World.grownBy_alloc _ _ _, Nat.le_refl _⟩

theorem fill_some (r c : Nat) (last left : Int) (low : Bool) (w : World) (h : Bt r c last left low w) (hl : 0 < left) :
    Calls Try.prog 48 #[.pointer (some ⟨r, 0, none⟩)] w fun e w' => e = .returned (.bool true) ∧ w = w' := by
  have d := h.c2
  clear h
  go_enter Try.func48, Try.ntmps48
  go_wp2
  go_ret
  exact ⟨rfl, rfl⟩

set_option maxRecDepth 100000 in
theorem fill_no (r c l : Nat) (s : ByteArray) (p f t : Nat) (x : St) (last : Int) (low : Bool) (w : World) (h : Bt r c last 0 low w) (hs : So c l s p f t w) (hl : Led l x.ls w) (ok : x.Ok) (rl : r ≠ l) (hn : rdB x p t 1 = false) :
    Calls Try.prog 48 #[.pointer (some ⟨r, 0, none⟩)] w
      fun e w' => e = .returned (.bool false) ∧ (Bt r c last 0 low w' ∧ So c l s p f t w' ∧ Led l (x.work 1).1.ls w') ∧ w.grownBy w' (some l) := by
  have d0 := h.c0
  have d2 := h.c2
  have K := Lib.hid (u8_no c l s p f t x w hs hl ok hn)
  have H := Lib.hid h
  clear h hs hl ok hn
  go_enter Try.func48, Try.ntmps48
  go_wp2_with fail
  refine K.out.mono ?_
  rintro e w1 ⟨rfl, S, g⟩
  have HS := Lib.hid S
  have HG := Lib.hid g
  clear S g
  go_wp2
  go_ret
  exact ⟨rfl, ⟨H.out.grown HG.out (by simpa using rl), HS.out⟩, HG.out⟩

set_option maxRecDepth 100000 in
theorem fill_yes (r c l : Nat) (s : ByteArray) (p f t : Nat) (x : St) (last : Int) (low : Bool) (w : World) (h : Bt r c last 0 low w) (hs : So c l s p f t w) (hl : Led l x.ls w) (ok : x.Ok) (rl : r ≠ l) (hn : rdB x p t 1 = true) (hp : p < s.size) :
    Calls Try.prog 48 #[.pointer (some ⟨r, 0, none⟩)] w
      fun e w' => e = .returned (.bool true) ∧ (Bt r c (s[p].toNat : Int) 8 low w' ∧ So c l s (p + 1) f t w' ∧ Led l (x.work 1).1.ls w') ∧ Tn w w' [r, c, l] := by
  have d0 := h.c0
  have d2 := h.c2
  have K := u8_yes c l s p f t x w hs hl ok hn
  have e1 : (numV false (s.extract p (p + 1)) : Int) = (s[p].toNat : Int) := by
    have e : (s.extract p (p + 1)).data.toList = [s[p]] := by
      rw [Lib.extract_data, show p + 1 - p = 1 from by omega, List.drop_eq_getElem_cons (by rw [← Lib.size_eq]; exact hp), byte_at' s p hp]
      rfl
    unfold numV
    rw [e]
    simp [ordd, acc]
  rw [e1] at K
  obtain ⟨V, hV⟩ : ∃ V : Int, (s[p].toNat : Int) = V := ⟨_, rfl⟩
  rw [hV] at K ⊢
  have hK := Lib.hid K
  have H := Lib.hid h
  have rc := h.rc
  clear K h hs hl ok hn e1 hV
  go_enter Try.func48, Try.ntmps48
  go_wp2_with fail
  refine hK.out.mono ?_
  rintro e w1 ⟨rfl, S, g⟩
  have B1 := H.out.turned g (by simp; exact ⟨rc, rl⟩)
  have b1 := B1.c1
  have b2 := B1.c2
  have z1 := B1.free 1
  have z2 := B1.free 2
  have HB := Lib.hid B1
  have HS := Lib.hid S
  have HG := Lib.hid g
  clear S g B1
  go_wp2_with fail
  try go_region
  all_goals
    go_wp2
    go_ret
    have TT : Tn w1 ((w1.setCell ⟨r, 1, none⟩ (.int .i64 V)).setCell ⟨r, 2, none⟩ (.int .i64 8)) [r] := ((Tn.refl w1 [r]).st (by simp)).st (by simp)
    refine ⟨rfl, ⟨(HB.out.set1 V).set2 8, HS.out.1.turned TT (by simpa using rc.symm), HS.out.2.turned TT (by simpa using rl.symm)⟩, ?_⟩
    exact (HG.out.mono (by simp)).trans (TT.mono (by simp))

end Go.Proofs.Ythgpjdnppknghaa.Bi
