/- Texts of one kind, one behind the other: Src1, Src2, Src3. -/
import Derived.Test.YtmhghkgcfgacdaaGreatG07
/- Package src: a source in memory; its places told; a reading's step. -/
namespace Go.Proofs.YtmhghkgcfgacdaaGreat.Sr
open Go.ChangeShapes Go.WideShapes Go.ChangeAt Go.RowKit
open Go.Proofs.YtmhghkgcfgacdaaGreat.Le
set_option linter.unusedVariables false

/-- The cells of a source of the ledger l over the text s, at p, from f to t. -/
def SC (l : Nat) (s : ByteArray) (p f t : Nat) : Array Value := #[.pointer (some ⟨l, 0, none⟩), .string s, .int .i64 p, .int .i64 f, .int .i64 t]

/-- Block b is a source of the ledger l over the text s, at p, from f to t. -/
structure So (b l : Nat) (s : ByteArray) (p f t : Nat) (w : World) : Prop where
  blk : w.heap[b]? = some (.cells (SC l s p f t) 110 (0, 0))
  bl : b ≠ l
  fp : f ≤ p
  pt : p ≤ t
  ts : t ≤ s.size
  big : s.size ≤ 9223372036854775807

section
variable {b l : Nat} {s : ByteArray} {p f t : Nat} {w w' : World}
theorem So.lt (h : So b l s p f t w) : b < w.heap.size := blk_lt h.blk
theorem So.grown {r : Option Nat} (h : So b l s p f t w) (k : w.grownBy w' r) (h1 : some b ≠ r) : So b l s p f t w' :=
  ⟨(k.block b h.lt h1).trans h.blk, h.bl, h.fp, h.pt, h.ts, h.big⟩
theorem So.turned {S : List Nat} (h : So b l s p f t w) (k : Tn w w' S) (h1 : b ∉ S) : So b l s p f t w' :=
  ⟨(k.block b h.lt h1).trans h.blk, h.bl, h.fp, h.pt, h.ts, h.big⟩
theorem So.c0 (h : So b l s p f t w) : w.cell? ⟨b, 0, none⟩ = some (.pointer (some ⟨l, 0, none⟩)) := blk_cell h.blk 0
theorem So.c1 (h : So b l s p f t w) : w.cell? ⟨b, 1, none⟩ = some (.string s) := blk_cell h.blk 1
theorem So.c2 (h : So b l s p f t w) : w.cell? ⟨b, 2, none⟩ = some (.int .i64 p) := blk_cell h.blk 2
theorem So.c3 (h : So b l s p f t w) : w.cell? ⟨b, 3, none⟩ = some (.int .i64 f) := blk_cell h.blk 3
theorem So.c4 (h : So b l s p f t w) : w.cell? ⟨b, 4, none⟩ = some (.int .i64 t) := blk_cell h.blk 4
theorem So.free (h : So b l s p f t w) (o : Nat) : w.frozen? ⟨b, o, none⟩ = false := blk_free h.blk o
/-- The place is set. -/
theorem So.set (h : So b l s p f t w) (q : Nat) (h1 : f ≤ q) (h2 : q ≤ t) : So b l s q f t (w.setCell ⟨b, 2, none⟩ (.int .i64 q)) :=
  ⟨blk_set h.blk 2 (.int .i64 q), h.bl, h1, h2, h.ts, h.big⟩
end

theorem at_calls (b l : Nat) (s : ByteArray) (p f t : Nat) (w : World) (h : So b l s p f t w) :
    Calls Tryz.prog 27 #[.pointer (some ⟨b, 0, none⟩)] w fun e w' => e = .returned (.int .i64 p) ∧ w = w' := by
  have c := h.c2
  clear h
  go_enter Tryz.func27, Tryz.ntmps27
  go_wp2
  go_ret
  exact ⟨rfl, rfl⟩

theorem ledger_calls (b l : Nat) (s : ByteArray) (p f t : Nat) (w : World) (h : So b l s p f t w) :
    Calls Tryz.prog 25 #[.pointer (some ⟨b, 0, none⟩)] w fun e w' => e = .returned (.pointer (some ⟨l, 0, none⟩)) ∧ w = w' := by
  have c := h.c0
  clear h
  go_enter Tryz.func25, Tryz.ntmps25
  go_wp2
  go_ret
  exact ⟨rfl, rfl⟩

theorem left_calls (b l : Nat) (s : ByteArray) (p f t : Nat) (w : World) (h : So b l s p f t w) :
    Calls Tryz.prog 109 #[.pointer (some ⟨b, 0, none⟩)] w fun e w' => e = .returned (.int .i64 ((t : Int) - p)) ∧ ∃ n, w' = w.drewN n := by
  have c := h.c2
  have d := h.c4
  have h1 := h.pt
  have h2 := h.ts
  have h3 := h.big
  clear h
  go_enter Tryz.func109, Tryz.ntmps109
  go_wp2_with fail
  go_quiet (fail)
  go_wp2
  go_ret
  exact ⟨rfl, _, rfl⟩

/-- Do n bytes stand from the place on? -/
def canB (p t : Nat) (n : Int) : Bool := decide (0 ≤ n) && decide (n ≤ (t : Int) - p)

set_option maxRecDepth 100000 in
theorem reach_calls (b l : Nat) (s : ByteArray) (p f t : Nat) (x : St) (n : Int) (w : World) (h : So b l s p f t w) (hl : Led l x.ls w) (ok : x.Ok) :
    Calls Tryz.prog 98 #[.pointer (some ⟨b, 0, none⟩), .int .i64 n] w
      fun e w' => e = .returned (.bool ((x.work 1).2 && canB p t n)) ∧ Led l (x.work 1).1.ls w' ∧ w.grownBy w' (some l) := by
  have c := h.c0
  have K := work_calls l x 1 w hl ok
  have KL := fun w' (g : w.grownBy w' (some l)) => left_calls b l s p f t w' (h.grown g (by simpa using h.bl))
  obtain ⟨r, hr⟩ : ∃ r, (x.work 1).2 = r := ⟨_, rfl⟩
  rw [hr] at K ⊢
  have hK := Lib.hid K
  have hKL := Lib.hid KL
  clear K KL h hl ok hr
  cases r with
  | false =>
    go_enter Tryz.func98, Tryz.ntmps98
    go_wp2_with fail
    refine hK.out.mono ?_
    rintro e w1 ⟨rfl, L, g⟩
    have HL := Lib.hid L
    have HG := Lib.hid g
    clear L g
    go_wp2
    go_ret
    exact ⟨rfl, HL.out, HG.out⟩
  | true =>
    by_cases h0 : 0 ≤ n
    · have e1 : (true && canB p t n) = decide (n ≤ (t : Int) - p) := by simp [canB, h0]
      rw [e1]
      clear e1
      go_enter Tryz.func98, Tryz.ntmps98
      go_wp2_with fail
      refine hK.out.mono ?_
      rintro e w1 ⟨rfl, L, g⟩
      have HL := Lib.hid L
      have HG := Lib.hid g
      clear L g
      go_wp2_with fail
      refine (hKL.out _ HG.out).mono ?_
      rintro e w2 ⟨rfl, nq, rfl⟩
      go_wp2
      go_ret
      exact ⟨rfl, HL.out, gb_trans HG.out (gb_drewN _ _ _)⟩
    · have e1 : (true && canB p t n) = false := by simp [canB, h0]
      have h0' : n < 0 := by omega
      rw [e1]
      clear e1 h0
      go_enter Tryz.func98, Tryz.ntmps98
      go_wp2_with fail
      refine hK.out.mono ?_
      rintro e w1 ⟨rfl, L, g⟩
      have HL := Lib.hid L
      have HG := Lib.hid g
      clear L g
      go_wp2
      go_ret
      exact ⟨rfl, HL.out, HG.out⟩

end Go.Proofs.YtmhghkgcfgacdaaGreat.Sr

/- Package src: further, bytes, the byte at the place, a place, a window, why a reading failed, a new source. -/
namespace Go.Proofs.YtmhghkgcfgacdaaGreat.Sr
open Go.ChangeShapes Go.WideShapes Go.ChangeAt Go.RowKit
open Go.Proofs.YtmhghkgcfgacdaaGreat.Le
set_option linter.unusedVariables false

/-- Does a reading of n bytes come? -/
def rdB (x : St) (p t : Nat) (n : Int) : Bool := (x.work 1).2 && canB p t n
theorem can_of {p t : Nat} {n : Int} (h : canB p t n = true) : 0 ≤ n ∧ n ≤ (t : Int) - p := by simpa [canB] using h
theorem rd_of {x : St} {p t : Nat} {n : Int} (h : rdB x p t n = true) : (x.work 1).2 = true ∧ 0 ≤ n ∧ n ≤ (t : Int) - p := by
  unfold rdB at h
  rw [Bool.and_eq_true] at h
  exact ⟨h.1, can_of h.2⟩

set_option maxRecDepth 100000 in
theorem skip_no (b l : Nat) (s : ByteArray) (p f t : Nat) (x : St) (n : Int) (w : World) (h : So b l s p f t w) (hl : Led l x.ls w) (ok : x.Ok) (hn : rdB x p t n = false) :
    Calls Tryz.prog 84 #[.pointer (some ⟨b, 0, none⟩), .int .i64 n] w
      fun e w' => e = .returned (.bool false) ∧ (So b l s p f t w' ∧ Led l (x.work 1).1.ls w') ∧ w.grownBy w' (some l) := by
  have K := reach_calls b l s p f t x n w h hl ok
  rw [show ((x.work 1).2 && canB p t n) = false from hn] at K
  have hK := Lib.hid K
  have H := Lib.hid h
  clear K h hl ok hn
  go_enter Tryz.func84, Tryz.ntmps84
  go_wp2_with fail
  refine hK.out.mono ?_
  rintro e w1 ⟨rfl, L, g⟩
  have HL := Lib.hid L
  have HG := Lib.hid g
  clear L g
  go_wp2
  go_ret
  exact ⟨rfl, ⟨H.out.grown HG.out (by simpa using H.out.bl), HL.out⟩, HG.out⟩

set_option maxRecDepth 100000 in
theorem skip_yes (b l : Nat) (s : ByteArray) (p f t n : Nat) (x : St) (w : World) (h : So b l s p f t w) (hl : Led l x.ls w) (ok : x.Ok) (hn : rdB x p t n = true) :
    Calls Tryz.prog 84 #[.pointer (some ⟨b, 0, none⟩), .int .i64 n] w
      fun e w' => e = .returned (.bool true) ∧ (So b l s (p + n) f t w' ∧ Led l (x.work 1).1.ls w') ∧ Tn w w' [b, l] := by
  have K := reach_calls b l s p f t x n w h hl ok
  rw [show ((x.work 1).2 && canB p t n) = true from hn] at K
  obtain ⟨_, n0, n1⟩ := rd_of hn
  have hK := Lib.hid K
  have H := Lib.hid h
  have h1 := h.pt
  have h2 := h.ts
  have h3 := h.big
  have h4 := h.fp
  clear K h hl ok hn
  go_enter Tryz.func84, Tryz.ntmps84
  go_wp2_with fail
  refine hK.out.mono ?_
  rintro e w1 ⟨rfl, L, g⟩
  have H1 := H.out.grown g (by simpa using H.out.bl)
  have c2 := H1.c2
  have z2 := H1.free 2
  have HL := Lib.hid L
  have HG := Lib.hid g
  have HS := Lib.hid H1
  clear L g H1
  go_wp2
  go_ret
  exact ⟨rfl, ⟨HS.out.set (p + n) (by omega) (by omega), HL.out.oth HS.out.bl.symm⟩, (Tn.gb HG.out (by simp)).trans (Tn.set _ _ _ _ (by simp))⟩

theorem cut_at (s : ByteArray) (p n : Nat) (h : p + n ≤ s.size) (w : World) :
    (Instr.slice 9 (.string s) (some (.int .i64 (p : Int))) (some (.int .i64 ((p : Int) + n))) none).run Tryz.prog w = .ok (.string (s.extract p (p + n))) w := by
  have ht' : Tryz.prog.underlying 9 = some .string := by kernel_rfl
  have e : ((p : Int) + n).toNat = p + n := by omega
  simp [Instr.slice, run_underlying ht', Instr.sliceBounds, run_sliceBound, Result.andThen, show (p : Int) + n ≤ s.size by omega, show (0 : Int) ≤ p + n by omega, e]
  rw [run_sliceBound _ _ _ _ _ (by omega) (by omega)]
  simp

set_option maxRecDepth 100000 in
theorem take_no (b l : Nat) (s : ByteArray) (p f t : Nat) (x : St) (n : Int) (w : World) (h : So b l s p f t w) (hl : Led l x.ls w) (ok : x.Ok) (hn : rdB x p t n = false) :
    Calls Tryz.prog 62 #[.pointer (some ⟨b, 0, none⟩), .int .i64 n] w
      fun e w' => e = .returned (.tuple #[.string ⟨#[]⟩, .bool false]) ∧ (So b l s p f t w' ∧ Led l (x.work 1).1.ls w') ∧ w.grownBy w' (some l) := by
  have hK := Lib.hid (skip_no b l s p f t x n w h hl ok hn)
  have c2 := h.c2
  clear h hl ok hn
  go_enter Tryz.func62, Tryz.ntmps62
  go_wp2_with fail
  refine hK.out.mono ?_
  rintro e w1 ⟨rfl, L, g⟩
  have HL := Lib.hid L
  have HG := Lib.hid g
  clear L g
  go_wp2
  go_ret2
  exact ⟨rfl, HL.out, HG.out⟩

set_option maxRecDepth 100000 in
theorem take_yes (b l : Nat) (s : ByteArray) (p f t n : Nat) (x : St) (w : World) (h : So b l s p f t w) (hl : Led l x.ls w) (ok : x.Ok) (hn : rdB x p t n = true) :
    Calls Tryz.prog 62 #[.pointer (some ⟨b, 0, none⟩), .int .i64 n] w
      fun e w' => e = .returned (.tuple #[.string (s.extract p (p + n)), .bool true]) ∧ (So b l s (p + n) f t w' ∧ Led l (x.work 1).1.ls w') ∧ Tn w w' [b, l] := by
  have hK := Lib.hid (skip_yes b l s p f t n x w h hl ok hn)
  obtain ⟨_, n0, n1⟩ := rd_of hn
  have c2 := h.c2
  have h1 := h.pt
  have h2 := h.ts
  have h3 := h.big
  have hc := cut_at s p n (by omega)
  clear h hl ok hn
  go_enter Tryz.func62, Tryz.ntmps62
  go_wp2_with fail
  refine hK.out.mono ?_
  rintro e w1 ⟨rfl, L, g⟩
  have d1 := L.1.c1
  have d2 : w1.cell? ⟨b, 2, none⟩ = some (.int .i64 ((p : Int) + n)) := by
    have := L.1.c2
    rwa [show ((p + n : Nat) : Int) = (p : Int) + n from by omega] at this
  have HL := Lib.hid L
  have HG := Lib.hid g
  clear L g
  go_wp2_with fail
  go_quiet (fail)
  go_wp2
  go_ret2
  exact ⟨rfl, ⟨HL.out.1.grown (gb_drewN _ _ none) (by simp), HL.out.2⟩, HG.out.trans (Tn.gb (gb_drewN _ _ none) (by simp))⟩

theorem byte_in (s : ByteArray) (p : Nat) (h : p < s.size) : (s[p].toNat : Int) ≤ 255 := by have := s[p].toNat_lt; omega

end Go.Proofs.YtmhghkgcfgacdaaGreat.Sr

/- Package src: a window, why a reading failed, a new source. -/
namespace Go.Proofs.YtmhghkgcfgacdaaGreat.Sr
open Go.ChangeShapes Go.WideShapes Go.ChangeAt Go.RowKit
open Go.Proofs.YtmhghkgcfgacdaaGreat.Le
set_option linter.unusedVariables false

theorem fault_calls (b l : Nat) (s : ByteArray) (p f t : Nat) (x : St) (k : Int) (w : World) (h : So b l s p f t w) (hl : Led l x.ls w) :
    Calls Tryz.prog 63 #[.pointer (some ⟨b, 0, none⟩), .int .i64 k] w
      fun e w' => e = .returned (if x.r = 0 then .agg #[.int .i64 1, .int .i64 k, .int .i64 t] else .agg #[.int .i64 4, .int .i64 k, .int .i64 p]) ∧ w.grownBy w' none := by
  have d0 := h.c0
  have d2 := h.c2
  have d4 := h.c4
  have hb := h.lt
  have hB := hl.lt
  have K := broken_calls l x.ls (w.alloc (.cells #[.int .i64 0, .int .i64 0, .int .i64 0] 29)) (hl.alloc _)
  clear h hl
  by_cases hr : x.r = 0
  · rw [if_pos hr]
    rw [show (x.ls.br != 0) = false from by simp [St.ls, hr]] at K
    have hK := Lib.hid K
    clear K hr
    go_enter Tryz.func63, Tryz.ntmps63
    go_wp2_with (go_at_call 68; refine hK.out.mono ?_; rintro e w' ⟨rfl, rfl⟩)
    refine bodyPost_ret (v := .agg #[.int .i64 1, .int .i64 k, .int .i64 t]) (by simp [results, Tryz.results63, go_sem]) rfl ⟨rfl, World.grownBy_alloc _ _ _⟩
  · rw [if_neg hr]
    rw [show (x.ls.br != 0) = true from by simp [St.ls, hr]] at K
    have hK := Lib.hid K
    clear K hr
    go_enter Tryz.func63, Tryz.ntmps63
    go_wp2_with (go_at_call 68; refine hK.out.mono ?_; rintro e w' ⟨rfl, rfl⟩)
    refine bodyPost_ret (v := .agg #[.int .i64 4, .int .i64 k, .int .i64 p]) (by simp [results, Tryz.results63, go_sem]) rfl ⟨rfl, World.grownBy_alloc _ _ _⟩

theorem snew_nil (s : ByteArray) (w : World) :
    Calls Tryz.prog 21 #[.pointer none, .string s] w fun e w' => e = .returned (.tuple #[.pointer none, .int .i64 1]) ∧ w = w' := by
  go_enter Tryz.func21, Tryz.ntmps21
  go_wp2
  go_ret2
  exact ⟨rfl, rfl⟩

theorem snew_calls (l : Nat) (s : ByteArray) (w : World) (hs : s.size ≤ 9223372036854775807) :
    Calls Tryz.prog 21 #[.pointer (some ⟨l, 0, none⟩), .string s] w
      fun e w' => ∃ c, e = .returned (.tuple #[.pointer (some ⟨c, 0, none⟩), .int .i64 0]) ∧ (l < w.heap.size → So c l s 0 0 s.size w') ∧ w.grownBy w' none ∧ w.heap.size ≤ c := by
  go_enter Tryz.func21, Tryz.ntmps21
  go_wp2
  go_ret2
  refine ⟨w.heap.size, rfl, fun hl => ⟨?_, by omega, Nat.le_refl _, Nat.zero_le _, Nat.le_refl _, hs⟩, World.grownBy_alloc _ _ _, Nat.le_refl _⟩
  exact blk_new w (SC l s 0 0 s.size) 110

end Go.Proofs.YtmhghkgcfgacdaaGreat.Sr
