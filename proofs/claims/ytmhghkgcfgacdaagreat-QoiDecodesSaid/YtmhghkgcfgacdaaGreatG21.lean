/- Texts of one kind, one behind the other: Bd2, Bd3. -/
import Derived.Lib.AppendStr
import Derived.Test.YtmhghkgcfgacdaaGreatG20
/- A strings.Builder among the cells of a block: a byte is written. -/
namespace Go.Proofs.YtmhghkgcfgacdaaGreat.Bd
open Go.ChangeShapes Go.WideShapes Go.ChangeAt Go.RowKit Go.Proofs.YtmhghkgcfgacdaaGreat.Le
set_option linter.unusedVariables false

/-- The cells behind a write. -/
def wrC (C : Array Value) (b o : Nat) (L : Value) : Array Value := (C.setIfInBounds o (.pointer (some ⟨b, o, none⟩))).setIfInBounds (o + 1) L
theorem wrC_size (C : Array Value) (b o : Nat) (L : Value) : (wrC C b o L).size = C.size := by simp [wrC]

set_option maxRecDepth 100000 in
set_option maxHeartbeats 1000000 in
theorem byte_calls (E : TypeId) (C : Array Value) (b o B : Nat) (p L : Value) (bs : List UInt8) (c : UInt8) (w : World) (h : Bo E C b o B p L bs w) (hp : Ad b o p)
    (hli : liesAt Tryz.prog Tryz.prog.depth E (C.size / Tryz.prog.cellsOf E) o 99 1 = true) (hlen : bs.length ≤ 1000000) :
    Calls Tryz.prog 78 #[.pointer (some ⟨b, o, none⟩), .int .u8 (c.toNat : Int)] w fun e w' => e = .returned .nilIface ∧ (∃ L', Bo E (wrC C b o L') b o B (.pointer (some ⟨b, o, none⟩)) L' (bs ++ [c]) w') ∧ Fr b B w w' := by
  obtain ⟨i0, hi, hz0, hz1, hz2⟩ := info_parts infoU
  have KC := Lib.hid (check_calls E C b o B p L bs w h hp hli)
  have HI := Lib.hid (And.intro hi (And.intro hz0 (And.intro hz1 hz2)))
  have HLN := Lib.hid hlen
  clear h hp hli hi hz0 hz1 hz2 hlen
  go_enter Tryz.func78, Tryz.ntmps78
  go_wp2_with fail
  refine KC.out.mono ?_
  rintro e w1 ⟨rfl, h1, f1⟩
  have c1 := h1.at1
  obtain ⟨va, vn, vc, rfl⟩ : ∃ a n c, L = .slice a n c := by
    rcases h1.own.2 with ⟨h, _⟩ | ⟨g, cap, cur, h, _⟩
    · exact ⟨_, _, _, h⟩
    · exact ⟨_, _, _, h⟩
  have hbl := blk_lt h1.blk
  have H1 := Lib.hid h1
  have HF1 := Lib.hid f1
  clear h1 f1
  go_wp2_with (at_builtin; refine wpList_append_own _ rfl _ _ 25 rfl B 5 i0 (.int .u8 0) 1 1 (by kernel_rfl) HI.out.1 HI.out.2.1 HI.out.2.2.1 HI.out.2.2.2 rfl (by decide) _ _ _ rfl (H1.out.own.alloc _) ⟨w1.heap.size, 0, none⟩ 1 1 [.int .u8 (c.toNat : Int)] rfl rfl ?c1 ?c2 ?c3 ?c4 ?c5 ?_)
  case c1 =>
    intro j u hj
    match j, hj with
    | 0, hj => simp at hj; subst hj; simp [Addr.add]
  case c2 => intro u hu; simp at hu; subst hu; rfl
  case c3 => have := HLN.out; unfold maxLen; omega
  case c4 => have := HLN.out; omega
  case c5 => have := H1.out.Bw; simp; omega
  intro v' w2 hown' hgrow _
  have b2 : w2.heap[b]? = some (.cells (C.setIfInBounds o (.pointer (some ⟨b, o, none⟩))) E (0, 0)) :=
    (hgrow.block b (by simp; omega) (fun e => H1.out.apart e.symm)).trans (blk_al H1.out.blk _)
  have d1 : w2.cell? ⟨b, o + 1, none⟩ = some (.slice va vn vc) := (blk_cell b2 (o + 1)).trans H1.out.c1
  have z1 : w2.frozen? ⟨b, o + 1, none⟩ = false := blk_free b2 (o + 1)
  have G2 := Lib.hid hgrow
  have HB2 := Lib.hid b2
  have HO2 := Lib.hid hown'
  obtain ⟨ga, gn, gc, rfl⟩ : ∃ a n c, v' = .slice a n c := by
    rcases hown'.2 with ⟨h, _⟩ | ⟨g, cap, cur, h, _⟩
    · exact ⟨_, _, _, h⟩
    · exact ⟨_, _, _, h⟩
  have hg := blk_lt b2
  clear hgrow b2 hown' c1
  go_wp2
  go_ret
  have fr1 : Fr b B w1 w2 := Fr.row (gb_trans (gb_any (World.grownBy_alloc w1 _ none) _) G2.out) H1.out.Bw (fun k hk => (H1.out.own.lt k hk).1)
  have hne : (Value.slice ga gn gc).ownBlock ≠ some b := fun e => by
    have h1 := (HO2.out.lt b e).1
    have := H1.out.lt
    omega
  refine ⟨rfl, ⟨.slice ga gn gc, ?_⟩, HF1.out.trans (fr1.trans (Fr.set w2 (o + 1) (.slice ga gn gc)))⟩
  refine ⟨blk_set HB2.out (o + 1) _, ?_, ?_, ?_, H1.out.lt, ?_⟩
  · exact (get_setn (by omega)).trans H1.out.c0
  · exact get_set0 H1.out.c1
  · have hl : (bs ++ [c]).length = bs.length + 1 := by simp
    rw [hl, Lib.byteCells_append]
    exact HO2.out.kept (row := some b) (gb_set w2 b (o + 1) _) (.inr hne)
  · exact Nat.le_trans H1.out.Bw (Nat.le_trans fr1.size (gb_set w2 b (o + 1) _).size)

end Go.Proofs.YtmhghkgcfgacdaaGreat.Bd

/- A strings.Builder among the cells of a block: a text is written; what it holds as a text. -/
namespace Go.Proofs.YtmhghkgcfgacdaaGreat.Bd
open Go.ChangeShapes Go.WideShapes Go.ChangeAt Go.RowKit Go.Proofs.YtmhghkgcfgacdaaGreat.Le
set_option linter.unusedVariables false

set_option maxRecDepth 100000 in
set_option maxHeartbeats 1000000 in
theorem text_calls (E : TypeId) (C : Array Value) (b o B : Nat) (p L : Value) (bs : List UInt8) (z : ByteArray) (w : World) (h : Bo E C b o B p L bs w) (hp : Ad b o p)
    (hli : liesAt Tryz.prog Tryz.prog.depth E (C.size / Tryz.prog.cellsOf E) o 99 1 = true) (hlen : bs.length + z.size ≤ 1000000) :
    Calls Tryz.prog 38 #[.pointer (some ⟨b, o, none⟩), .string z] w fun e w' => e = .returned (.tuple #[.int .i64 z.size, .nilIface]) ∧ (∃ L', Bo E (wrC C b o L') b o B (.pointer (some ⟨b, o, none⟩)) L' (bs ++ z.data.toList) w') ∧ Fr b B w w' := by
  obtain ⟨i0, hi, hz0, hz1, hz2⟩ := info_parts infoU
  have KC := Lib.hid (check_calls E C b o B p L bs w h hp hli)
  have HI := Lib.hid (And.intro hi (And.intro hz0 (And.intro hz1 hz2)))
  have HLN := Lib.hid hlen
  clear h hp hli hi hz0 hz1 hz2 hlen
  go_enter Tryz.func38, Tryz.ntmps38
  go_wp2_with fail
  refine KC.out.mono ?_
  rintro e w1 ⟨rfl, h1, f1⟩
  have c1 := h1.at1
  obtain ⟨va, vn, vc, rfl⟩ : ∃ a n c, L = .slice a n c := by
    rcases h1.own.2 with ⟨h, _⟩ | ⟨g, cap, cur, h, _⟩
    · exact ⟨_, _, _, h⟩
    · exact ⟨_, _, _, h⟩
  have hbl := blk_lt h1.blk
  have H1 := Lib.hid h1
  have HF1 := Lib.hid f1
  clear h1 f1
  go_wp2_with (at_builtin; refine Lib.wpList_append_own_string _ rfl _ _ 25 9 rfl B 5 i0 (by kernel_rfl) (by kernel_rfl) HI.out.1 HI.out.2.1 HI.out.2.2.1 HI.out.2.2.2 _ _ _ rfl H1.out.own z rfl ?c3 ?c4 ?c5 ?_)
  case c3 => have := HLN.out; unfold maxLen; omega
  case c4 => have := HLN.out; omega
  case c5 => exact H1.out.Bw
  intro v' w2 hown' hgrow _
  have b2 : w2.heap[b]? = some (.cells (C.setIfInBounds o (.pointer (some ⟨b, o, none⟩))) E (0, 0)) :=
    (hgrow.block b hbl (fun e => H1.out.apart e.symm)).trans H1.out.blk
  have d1 : w2.cell? ⟨b, o + 1, none⟩ = some (.slice va vn vc) := (blk_cell b2 (o + 1)).trans H1.out.c1
  have z1 : w2.frozen? ⟨b, o + 1, none⟩ = false := blk_free b2 (o + 1)
  have G2 := Lib.hid hgrow
  have HB2 := Lib.hid b2
  have HO2 := Lib.hid hown'
  obtain ⟨ga, gn, gc, rfl⟩ : ∃ a n c, v' = .slice a n c := by
    rcases hown'.2 with ⟨h, _⟩ | ⟨g, cap, cur, h, _⟩
    · exact ⟨_, _, _, h⟩
    · exact ⟨_, _, _, h⟩
  have hg := blk_lt b2
  clear hgrow b2 hown' c1
  go_wp2
  go_ret2
  have fr1 : Fr b B w1 w2 := Fr.row G2.out H1.out.Bw (fun k hk => (H1.out.own.lt k hk).1)
  have hne : (Value.slice ga gn gc).ownBlock ≠ some b := fun e => by
    have h1 := (HO2.out.lt b e).1
    have := H1.out.lt
    omega
  refine ⟨rfl, ⟨.slice ga gn gc, ?_⟩, HF1.out.trans (fr1.trans (Fr.set w2 (o + 1) (.slice ga gn gc)))⟩
  refine ⟨blk_set HB2.out (o + 1) _, ?_, ?_, ?_, H1.out.lt, ?_⟩
  · exact (get_setn (by omega)).trans H1.out.c0
  · exact get_set0 H1.out.c1
  · have hl : (bs ++ z.data.toList).length = bs.length + z.size := by rw [List.length_append, Lib.size_eq]
    rw [hl, Lib.byteCells_append]
    exact HO2.out.kept (row := some b) (gb_set w2 b (o + 1) _) (.inr hne)
  · exact Nat.le_trans H1.out.Bw (Nat.le_trans fr1.size (gb_set w2 b (o + 1) _).size)


end Go.Proofs.YtmhghkgcfgacdaaGreat.Bd
