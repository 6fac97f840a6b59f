/- Layer 10: a palette's room, Add, Of, Free, walked. -/
import Derived.Test.YtljbhahdaepecaaPalI
import Derived.Test.YtljbhahdaepecaaSrc2
namespace Go.Proofs.Ytljbhahdaepecaa.Pa
open Go.ChangeShapes Go.WideShapes Go.ChangeAt Go.RowKit
open Go.Proofs.Ytljbhahdaepecaa.Sc Go.Proofs.Ytljbhahdaepecaa.Le
set_option linter.unusedVariables false

/-- A palette in memory: block p, buffer b of ledger l, its bytes S in block g; n entries of most. -/
structure Po (p b l g : Nat) (n most : Nat) (S : ByteArray) (w : World) : Prop where
  blk : w.heap[p]? = some (.cells (palCells b n) 82 (0, 0))
  buf : Bu.BOpen b l g S w
  size : S.size = 4 * most
  le : n ≤ most
  big : most ≤ 65536
  pb : p ≠ b
  pl : p ≠ l
  pg : p ≠ g

theorem Po.grown {p b l g n most : Nat} {S : ByteArray} {w w' : World} {r : Option Nat} (h : Po p b l g n most S w) (k : w.grownBy w' r) (h1 : some p ≠ r) (h2 : some b ≠ r) (h3 : some g ≠ r) : Po p b l g n most S w' :=
  ⟨(k.block p (blk_lt h.blk) h1).trans h.blk, h.buf.grown k h2 h3, h.size, h.le, h.big, h.pb, h.pl, h.pg⟩
theorem Po.c0 {p b l g n most : Nat} {S : ByteArray} {w : World} (h : Po p b l g n most S w) : w.cell? ⟨p, 0, none⟩ = some (.pointer (some ⟨b, 0, none⟩)) := blk_cell h.blk 0
theorem Po.c1 {p b l g n most : Nat} {S : ByteArray} {w : World} (h : Po p b l g n most S w) : w.cell? ⟨p, 1, none⟩ = some (.int .i64 n) := blk_cell h.blk 1

theorem len_quiet (b l g : Nat) (S : ByteArray) (m : Nat) (W : World) (k : Nat) (h : Bu.BOpen b l g S W) (hs : S.size = 4 * m) :
    Calls Try.prog 30 #[.pointer (some ⟨b, 0, none⟩)] (W.drewN k) fun e w' => e = .returned (.int .i64 (4 * (m : Int))) ∧ w' = W.drewN k := by
  have K := Bu.len_calls b l g true S (W.drewN k) (.inl ⟨rfl, h.grown (gb_drewN W k none) (by simp) (by simp)⟩)
  have e : ((S.size : Nat) : Int) = 4 * (m : Int) := by omega
  rw [e] at K
  exact K.mono (fun _ _ ⟨a, b⟩ => ⟨a, b.symm⟩)

set_option maxRecDepth 100000 in
theorem room_calls (p b l g n most : Nat) (S : ByteArray) (W : World) (h : Po p b l g n most S W) :
    Calls Try.prog 28 #[.pointer (some ⟨p, 0, none⟩)] W fun e w' => e = .returned (.int .i64 ((most : Int) - n)) ∧ W.grownBy w' none := by
  have c0 := h.c0
  have c1 := h.c1
  have hle := h.le
  have hbig := h.big
  have KQ := Lib.hid (fun k => len_quiet b l g S most W k h.buf h.size)
  have q1 : (4 * (most : Int)).tdiv 4 = most := by rw [Int.tdiv_eq_ediv_of_nonneg (by omega)]; omega
  have q2 : IntKind.i64.wrap (most : Int) = most := by rw [IntKind.wrap_i64]; omega
  have q3 : IntKind.i64.wrap ((most : Int) - n) = (most : Int) - n := by rw [IntKind.wrap_i64]; omega
  clear h
  go_enter Try.func28, Try.ntmps28
  go_wp2
  go_quiet ((go_at_call 30; exact Calls.quiet_of_same (KQ.out _)))
  go_wp2
  go_ret
  exact ⟨rfl, gb_drewN _ _ _⟩

set_option maxRecDepth 100000 in
theorem add_no (p b l g n most : Nat) (S : ByteArray) (c0 c1 c2 c3 : Int) (W : World) (h : Po p b l g n most S W) (hn : n = most) :
    Calls Try.prog 15 #[.pointer (some ⟨p, 0, none⟩), .agg #[.int .u8 c0, .int .u8 c1, .int .u8 c2, .int .u8 c3]] W fun e w' => e = .returned (.bool false) ∧ W.grownBy w' none := by
  have KR := fun u (hu : Po p b l g n most S u) => room_calls p b l g n most S u hu
  have e0 : (most : Int) - n = 0 := by omega
  simp only [e0] at KR
  have KR' := Lib.hid KR
  have H := Lib.hid h
  clear KR e0 h hn
  go_enter Try.func15, Try.ntmps15
  go_wp2_with fail
  have ga := World.grownBy_alloc W (.cells #[.int .u8 c0, .int .u8 c1, .int .u8 c2, .int .u8 c3] 24) none
  refine (KR'.out _ (H.out.grown ga (by simp) (by simp) (by simp))).mono ?_
  rintro e w1 ⟨rfl, g1⟩
  have G := Lib.hid (gb_trans ga g1)
  clear ga g1
  go_wp2
  go_ret
  exact ⟨rfl, G.out⟩

end Go.Proofs.Ytljbhahdaepecaa.Pa
