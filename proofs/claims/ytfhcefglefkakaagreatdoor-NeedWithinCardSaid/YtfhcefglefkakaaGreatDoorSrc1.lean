/- Package src: a source in memory; its places told; a reading's step. -/
import Derived.Test.YtfhcefglefkakaaGreatDoorTnL
namespace Go.Proofs.YtfhcefglefkakaaGreatDoor.Sr
open Go.ChangeShapes Go.WideShapes Go.ChangeAt Go.RowKit
open Go.Proofs.YtfhcefglefkakaaGreatDoor.Le
set_option linter.unusedVariables false

/-- The cells of a source of the ledger l over the text s, at p, from f to t. -/
def SC (l : Nat) (s : ByteArray) (p f t : Nat) : Array Value := #[.pointer (some ⟨l, 0, none⟩), .string s, .int .i64 p, .int .i64 f, .int .i64 t]

/-- Block b is a source of the ledger l over the text s, at p, from f to t. -/
structure So (b l : Nat) (s : ByteArray) (p f t : Nat) (w : World) : Prop where
  blk : w.heap[b]? = some (.cells (SC l s p f t) 55 (0, 0))
  bl : b ≠ l
  fp : f ≤ p
  pt : p ≤ t
  ts : t ≤ s.size
  big : s.size ≤ 9223372036854775807

section
variable {b l : Nat} {s : ByteArray} {p f t : Nat} {w w' : World}
theorem So.lt (h : So b l s p f t w) : b < w.heap.size := blk_lt h.blk
theorem So.grown {r : Option Nat} (h : So b l s p f t w) (k : w.grownBy w' r) (h1 : some b ≠ r) : So b l s p f t w' :=
  ⟨(k.block b h.lt h1).trans h.blk, h.bl, h.fp, h.pt, h.ts, h.big⟩
theorem So.turned {S : List Nat} (h : So b l s p f t w) (k : Tn w w' S) (h1 : b ∉ S) : So b l s p f t w' :=
  ⟨(k.block b h.lt h1).trans h.blk, h.bl, h.fp, h.pt, h.ts, h.big⟩
theorem So.c0 (h : So b l s p f t w) : w.cell? ⟨b, 0, none⟩ = some (.pointer (some ⟨l, 0, none⟩)) := blk_cell h.blk 0
theorem So.c1 (h : So b l s p f t w) : w.cell? ⟨b, 1, none⟩ = some (.string s) := blk_cell h.blk 1
theorem So.c2 (h : So b l s p f t w) : w.cell? ⟨b, 2, none⟩ = some (.int .i64 p) := blk_cell h.blk 2
theorem So.c3 (h : So b l s p f t w) : w.cell? ⟨b, 3, none⟩ = some (.int .i64 f) := blk_cell h.blk 3
theorem So.c4 (h : So b l s p f t w) : w.cell? ⟨b, 4, none⟩ = some (.int .i64 t) := blk_cell h.blk 4
theorem So.free (h : So b l s p f t w) (o : Nat) : w.frozen? ⟨b, o, none⟩ = false := blk_free h.blk o
/-- The place is set. -/
theorem So.set (h : So b l s p f t w) (q : Nat) (h1 : f ≤ q) (h2 : q ≤ t) : So b l s q f t (w.setCell ⟨b, 2, none⟩ (.int .i64 q)) :=
  ⟨blk_set h.blk 2 (.int .i64 q), h.bl, h1, h2, h.ts, h.big⟩
end

theorem at_calls (b l : Nat) (s : ByteArray) (p f t : Nat) (w : World) (h : So b l s p f t w) :
    Calls Tryz.prog 49 #[.pointer (some ⟨b, 0, none⟩)] w fun e w' => e = .returned (.int .i64 p) ∧ w = w' := by
  have c := h.c2
  clear h
  go_enter Tryz.func49, Tryz.ntmps49
  go_wp2
  go_ret
  exact ⟨rfl, rfl⟩

theorem from_calls (b l : Nat) (s : ByteArray) (p f t : Nat) (w : World) (h : So b l s p f t w) :
    Calls Tryz.prog 132 #[.pointer (some ⟨b, 0, none⟩)] w fun e w' => e = .returned (.int .i64 f) ∧ w = w' := by
  have c := h.c3
  clear h
  go_enter Tryz.func132, Tryz.ntmps132
  go_wp2
  go_ret
  exact ⟨rfl, rfl⟩

theorem to_calls (b l : Nat) (s : ByteArray) (p f t : Nat) (w : World) (h : So b l s p f t w) :
    Calls Tryz.prog 127 #[.pointer (some ⟨b, 0, none⟩)] w fun e w' => e = .returned (.int .i64 t) ∧ w = w' := by
  have c := h.c4
  clear h
  go_enter Tryz.func127, Tryz.ntmps127
  go_wp2
  go_ret
  exact ⟨rfl, rfl⟩

theorem left_calls (b l : Nat) (s : ByteArray) (p f t : Nat) (w : World) (h : So b l s p f t w) :
    Calls Tryz.prog 147 #[.pointer (some ⟨b, 0, none⟩)] w fun e w' => e = .returned (.int .i64 ((t : Int) - p)) ∧ ∃ n, w' = w.drewN n := by
  have c := h.c2
  have d := h.c4
  have h1 := h.pt
  have h2 := h.ts
  have h3 := h.big
  clear h
  go_enter Tryz.func147, Tryz.ntmps147
  go_wp2_with fail
  go_quiet (fail)
  go_wp2
  go_ret
  exact ⟨rfl, _, rfl⟩

/-- Do n bytes stand from the place on? -/
def canB (p t : Nat) (n : Int) : Bool := decide (0 ≤ n) && decide (n ≤ (t : Int) - p)

set_option maxRecDepth 100000 in
theorem reach_calls (b l : Nat) (s : ByteArray) (p f t : Nat) (x : St) (n : Int) (w : World) (h : So b l s p f t w) (hl : Led l x.ls w) (ok : x.Ok) :
    Calls Tryz.prog 142 #[.pointer (some ⟨b, 0, none⟩), .int .i64 n] w
      fun e w' => e = .returned (.bool ((x.work 1).2 && canB p t n)) ∧ Led l (x.work 1).1.ls w' ∧ w.grownBy w' (some l) := by
  have c := h.c0
  have K := work_calls l x 1 w hl ok
  have KL := fun w' (g : w.grownBy w' (some l)) => left_calls b l s p f t w' (h.grown g (by simpa using h.bl))
  obtain ⟨r, hr⟩ : ∃ r, (x.work 1).2 = r := ⟨_, rfl⟩
  rw [hr] at K ⊢
  have hK := Lib.hid K
  have hKL := Lib.hid KL
  clear K KL h hl ok hr
  cases r with
  | false =>
    go_enter Tryz.func142, Tryz.ntmps142
    go_wp2_with fail
    refine hK.out.mono ?_
    rintro e w1 ⟨rfl, L, g⟩
    have HL := Lib.hid L
    have HG := Lib.hid g
    clear L g
    go_wp2
    go_ret
    exact ⟨rfl, HL.out, HG.out⟩
  | true =>
    by_cases h0 : 0 ≤ n
    · have e1 : (true && canB p t n) = decide (n ≤ (t : Int) - p) := by simp [canB, h0]
      rw [e1]
      clear e1
      go_enter Tryz.func142, Tryz.ntmps142
      go_wp2_with fail
      refine hK.out.mono ?_
      rintro e w1 ⟨rfl, L, g⟩
      have HL := Lib.hid L
      have HG := Lib.hid g
      clear L g
      go_wp2_with fail
      refine (hKL.out _ HG.out).mono ?_
      rintro e w2 ⟨rfl, nq, rfl⟩
      go_wp2
      go_ret
      exact ⟨rfl, HL.out, gb_trans HG.out (gb_drewN _ _ _)⟩
    · have e1 : (true && canB p t n) = false := by simp [canB, h0]
      have h0' : n < 0 := by omega
      rw [e1]
      clear e1 h0
      go_enter Tryz.func142, Tryz.ntmps142
      go_wp2_with fail
      refine hK.out.mono ?_
      rintro e w1 ⟨rfl, L, g⟩
      have HL := Lib.hid L
      have HG := Lib.hid g
      clear L g
      go_wp2
      go_ret
      exact ⟨rfl, HL.out, HG.out⟩

end Go.Proofs.YtfhcefglefkakaaGreatDoor.Sr
