/- A strings.Builder whose rows lie behind a bound: bytes of a slice are written, a text is written. -/
import Derived.Test.YteimfjlogjdakaaBx1
namespace Go.Proofs.Yteimfjlogjdakaa.Bd
open Go.ChangeShapes Go.WideShapes Go.ChangeAt Go.RowKit Go.Proofs.Yteimfjlogjdakaa.Le
set_option linter.unusedVariables false

set_option maxRecDepth 100000 in
theorem check_g (E : TypeId) (C : Array Value) (b o B : Nat) (p L : Value) (bs : List UInt8) (w : World) (h : Bo E C b o B p L bs w) (hp : Ad b o p)
    (hli : liesAt Try.prog Try.prog.depth E (C.size / Try.prog.cellsOf E) o 28 1 = true) :
    Calls Try.prog 19 #[.pointer (some ⟨b, o, none⟩)] w fun e w' => e = .returned (.tuple #[]) ∧ Bo E (C.setIfInBounds o (.pointer (some ⟨b, o, none⟩))) b o B (.pointer (some ⟨b, o, none⟩)) L bs w' ∧ (Fr b B w w' ∧ Fy b w w') ∧ w.grownBy w' (some b) := by
  rcases hp with rfl | rfl
  · refine (check_fresh E C.size b o w h.at0 (by simp [World.shape?, h.blk]) (Array.getElem?_eq_some_iff.1 h.c0).1 (blk_free h.blk o) hli).mono ?_
    rintro e w' ⟨rfl, rfl⟩
    exact ⟨rfl, h.used _, ⟨Fr.set w o _, Fy.set b w o _⟩, gb_set w b o _⟩
  · refine (check_used b o w h.at0).mono ?_
    rintro e w' ⟨rfl, rfl⟩
    have e : C.setIfInBounds o (.pointer (some ⟨b, o, none⟩)) = C := by
      apply Array.ext_getElem?
      intro i
      by_cases hi : o = i
      · subst hi
        rw [get_set0 h.c0, h.c0]
      · exact get_setn hi
    rw [e]
    exact ⟨rfl, h, ⟨Fr.refl _ _ _, Fy.refl _ _⟩, gb_refl _ _⟩

set_option maxRecDepth 100000 in
set_option maxHeartbeats 1000000 in
theorem write_y (E : TypeId) (C : Array Value) (b o B : Nat) (p L : Value) (bs : List UInt8) (q n : Nat) (l : List UInt8) (w : World) (h : Bo E C b o B p L bs w) (hp : Ad b o p)
    (hli : liesAt Try.prog Try.prog.depth E (C.size / Try.prog.cellsOf E) o 28 1 = true) (hlen : bs.length + n ≤ 1000000) (hn : l.length = n) (hn1 : 1 ≤ n) (hq : w.heap[q]? = some (.cells (Lib.byteCells l).toArray 5 (0, 0))) (hqb : q ≠ b) :
    Calls Try.prog 14 #[.pointer (some ⟨b, o, none⟩), .slice (some ⟨q, 0, none⟩) n n] w fun e w' => e = .returned (.tuple #[.int .i64 (n : Int), .nilIface]) ∧ (∃ L', Bo E (wrC C b o L') b o B (.pointer (some ⟨b, o, none⟩)) L' (bs ++ l) w') ∧ Fr b B w w' ∧ Fy b w w' := by
  obtain ⟨i0, hi, hz0, hz1, hz2⟩ := info_parts infoU
  have KC := Lib.hid (check_g E C b o B p L bs w h hp hli)
  have HI := Lib.hid (And.intro hi (And.intro hz0 (And.intro hz1 hz2)))
  have HLN := Lib.hid (And.intro hlen (And.intro hn hn1))
  have HQ := Lib.hid (And.intro hq hqb)
  clear h hp hli hi hz0 hz1 hz2 hlen hn hn1 hq hqb
  go_enter Try.func14, Try.ntmps14
  go_wp2_with fail
  refine KC.out.mono ?_
  rintro e w1 ⟨rfl, h1, fy, gg⟩
  have c1 := h1.at1
  obtain ⟨va, vn, vc, rfl⟩ : ∃ a n c, L = .slice a n c := by
    rcases h1.own.2 with ⟨h, _⟩ | ⟨g, cap, cur, h, _⟩
    · exact ⟨_, _, _, h⟩
    · exact ⟨_, _, _, h⟩
  have hbl := blk_lt h1.blk
  have H1 := Lib.hid h1
  have HF1 := Lib.hid fy
  have HQ1 := Lib.hid ((gg.block q (blk_lt HQ.out.1) (fun e => HQ.out.2 (by cases e; rfl))).trans HQ.out.1)
  clear h1 fy gg
  go_wp2_with (at_builtin; refine wpList_append_own _ rfl _ _ 26 rfl B 5 i0 (.int .u8 0) 1 1 (by kernel_rfl) HI.out.1 HI.out.2.1 HI.out.2.2.1 HI.out.2.2.2 rfl (by decide) _ _ _ rfl H1.out.own ⟨q, 0, none⟩ n n (Lib.byteCells l) rfl (by simp [Lib.byteCells, HLN.out.2.1]) ?c1 ?c2 ?c3 ?c4 ?c5 ?_)
  case c1 =>
    intro j u hj
    have : w1.cell? ⟨q, 0 + j, none⟩ = some u := by
      rw [Nat.zero_add, blk_cell HQ1.out j]
      simpa using hj
    have hadd : (⟨q, 0, none⟩ : Addr).add j = ⟨q, 0 + j, none⟩ := by unfold Addr.add; split <;> simp_all
    rw [hadd]
    exact this
  case c2 =>
    intro u hu
    simp only [Lib.byteCells, List.mem_map] at hu
    obtain ⟨x, _, rfl⟩ := hu
    rfl
  case c3 => have := HLN.out.1; unfold maxLen; omega
  case c4 => have := HLN.out.1; omega
  case c5 => exact H1.out.Bw
  intro v' w2 hown' hgrow _
  have b2 : w2.heap[b]? = some (.cells (C.setIfInBounds o (.pointer (some ⟨b, o, none⟩))) E (0, 0)) :=
    (hgrow.block b hbl (fun e => H1.out.apart e.symm)).trans H1.out.blk
  have d1 : w2.cell? ⟨b, o + 1, none⟩ = some (.slice va vn vc) := (blk_cell b2 (o + 1)).trans H1.out.c1
  have z1 : w2.frozen? ⟨b, o + 1, none⟩ = false := blk_free b2 (o + 1)
  have G2 := Lib.hid hgrow
  have HB2 := Lib.hid b2
  have HO2 := Lib.hid hown'
  obtain ⟨ga, gn, gc, rfl⟩ : ∃ a n c, v' = .slice a n c := by
    rcases hown'.2 with ⟨h, _⟩ | ⟨g, cap, cur, h, _⟩
    · exact ⟨_, _, _, h⟩
    · exact ⟨_, _, _, h⟩
  have hg := blk_lt b2
  clear hgrow b2 hown' c1
  go_wp2
  go_ret2
  have fr1 : Fr b B w1 w2 := Fr.row G2.out H1.out.Bw (fun k hk => (H1.out.own.lt k hk).1)
  have fy1 : Fy b w1 w2 := Fy.row G2.out (own_rowU H1.out.own)
  have hne : (Value.slice ga gn gc).ownBlock ≠ some b := fun e => by
    have h1 := (HO2.out.lt b e).1
    have := H1.out.lt
    omega
  refine ⟨rfl, ⟨.slice ga gn gc, ?_⟩, HF1.out.1.trans (fr1.trans (Fr.set w2 (o + 1) (.slice ga gn gc))), HF1.out.2.trans (fy1.trans (Fy.set b w2 (o + 1) (.slice ga gn gc)))⟩
  refine ⟨blk_set HB2.out (o + 1) _, ?_, ?_, ?_, H1.out.lt, ?_⟩
  · exact (get_setn (by omega)).trans H1.out.c0
  · exact get_set0 H1.out.c1
  · have hl : (bs ++ l).length = bs.length + n := by rw [List.length_append, HLN.out.2.1]
    rw [hl, Lib.byteCells_append]
    exact HO2.out.kept (row := some b) (gb_set w2 b (o + 1) _) (.inr hne)
  · exact Nat.le_trans H1.out.Bw (Nat.le_trans fr1.size (gb_set w2 b (o + 1) _).size)

theorem write_z (b B q n : Nat) (bs l : List UInt8) (w : World) (h : Oz b B bs w) (hn : l.length = n) (hn1 : 1 ≤ n) (hq : w.heap[q]? = some (.cells (Lib.byteCells l).toArray 5 (0, 0))) (hqb : q ≠ b) (hlen : bs.length + n ≤ 1000000) :
    Calls Try.prog 14 #[.pointer (some ⟨b, 0, none⟩), .slice (some ⟨q, 0, none⟩) n n] w fun e w' => e = .returned (.tuple #[.int .i64 (n : Int), .nilIface]) ∧ Oz b B (bs ++ l) w' ∧ Fr b B w w' ∧ Fy b w w' := by
  obtain ⟨p, L, hp, h, h0⟩ := h.ex
  refine (write_y _ _ b 0 B _ L bs q n l w h hp liesZ hlen hn hn1 hq hqb).mono ?_
  rintro e w' ⟨rfl, ⟨L', h'⟩, f, y⟩
  refine ⟨rfl, ⟨_, L', .inr rfl, h', fun e => ?_⟩, f, y⟩
  have h2 := congrArg List.length (List.append_eq_nil_iff.1 e).2
  rw [hn, List.length_nil] at h2
  omega

set_option maxRecDepth 100000 in
set_option maxHeartbeats 1000000 in
theorem text_y (E : TypeId) (C : Array Value) (b o B : Nat) (p L : Value) (bs : List UInt8) (z : ByteArray) (w : World) (h : Bo E C b o B p L bs w) (hp : Ad b o p)
    (hli : liesAt Try.prog Try.prog.depth E (C.size / Try.prog.cellsOf E) o 28 1 = true) (hlen : bs.length + z.size ≤ 1000000) :
    Calls Try.prog 15 #[.pointer (some ⟨b, o, none⟩), .string z] w fun e w' => e = .returned (.tuple #[.int .i64 z.size, .nilIface]) ∧ (∃ L', Bo E (wrC C b o L') b o B (.pointer (some ⟨b, o, none⟩)) L' (bs ++ z.data.toList) w') ∧ Fr b B w w' ∧ Fy b w w' := by
  obtain ⟨i0, hi, hz0, hz1, hz2⟩ := info_parts infoU
  have KC := Lib.hid (check_g E C b o B p L bs w h hp hli)
  have HI := Lib.hid (And.intro hi (And.intro hz0 (And.intro hz1 hz2)))
  have HLN := Lib.hid hlen
  clear h hp hli hi hz0 hz1 hz2 hlen
  go_enter Try.func15, Try.ntmps15
  go_wp2_with fail
  refine KC.out.mono ?_
  rintro e w1 ⟨rfl, h1, fy, gg⟩
  have c1 := h1.at1
  obtain ⟨va, vn, vc, rfl⟩ : ∃ a n c, L = .slice a n c := by
    rcases h1.own.2 with ⟨h, _⟩ | ⟨g, cap, cur, h, _⟩
    · exact ⟨_, _, _, h⟩
    · exact ⟨_, _, _, h⟩
  have hbl := blk_lt h1.blk
  have H1 := Lib.hid h1
  have HF1 := Lib.hid fy
  clear h1 fy gg
  go_wp2_with (at_builtin; refine Lib.wpList_append_own_string _ rfl _ _ 26 9 rfl B 5 i0 (by kernel_rfl) (by kernel_rfl) HI.out.1 HI.out.2.1 HI.out.2.2.1 HI.out.2.2.2 _ _ _ rfl H1.out.own z rfl ?c3 ?c4 ?c5 ?_)
  case c3 => have := HLN.out; unfold maxLen; omega
  case c4 => have := HLN.out; omega
  case c5 => exact H1.out.Bw
  intro v' w2 hown' hgrow _
  have b2 : w2.heap[b]? = some (.cells (C.setIfInBounds o (.pointer (some ⟨b, o, none⟩))) E (0, 0)) :=
    (hgrow.block b hbl (fun e => H1.out.apart e.symm)).trans H1.out.blk
  have d1 : w2.cell? ⟨b, o + 1, none⟩ = some (.slice va vn vc) := (blk_cell b2 (o + 1)).trans H1.out.c1
  have z1 : w2.frozen? ⟨b, o + 1, none⟩ = false := blk_free b2 (o + 1)
  have G2 := Lib.hid hgrow
  have HB2 := Lib.hid b2
  have HO2 := Lib.hid hown'
  obtain ⟨ga, gn, gc, rfl⟩ : ∃ a n c, v' = .slice a n c := by
    rcases hown'.2 with ⟨h, _⟩ | ⟨g, cap, cur, h, _⟩
    · exact ⟨_, _, _, h⟩
    · exact ⟨_, _, _, h⟩
  have hg := blk_lt b2
  clear hgrow b2 hown' c1
  go_wp2
  go_ret2
  have fr1 : Fr b B w1 w2 := Fr.row G2.out H1.out.Bw (fun k hk => (H1.out.own.lt k hk).1)
  have fy1 : Fy b w1 w2 := Fy.row G2.out (own_rowU H1.out.own)
  have hne : (Value.slice ga gn gc).ownBlock ≠ some b := fun e => by
    have h1 := (HO2.out.lt b e).1
    have := H1.out.lt
    omega
  refine ⟨rfl, ⟨.slice ga gn gc, ?_⟩, HF1.out.1.trans (fr1.trans (Fr.set w2 (o + 1) (.slice ga gn gc))), HF1.out.2.trans (fy1.trans (Fy.set b w2 (o + 1) (.slice ga gn gc)))⟩
  refine ⟨blk_set HB2.out (o + 1) _, ?_, ?_, ?_, H1.out.lt, ?_⟩
  · exact (get_setn (by omega)).trans H1.out.c0
  · exact get_set0 H1.out.c1
  · have hl : (bs ++ z.data.toList).length = bs.length + z.size := by rw [List.length_append, Lib.size_eq]
    rw [hl, Lib.byteCells_append]
    exact HO2.out.kept (row := some b) (gb_set w2 b (o + 1) _) (.inr hne)
  · exact Nat.le_trans H1.out.Bw (Nat.le_trans fr1.size (gb_set w2 b (o + 1) _).size)
theorem text_z (b B : Nat) (bs : List UInt8) (z : ByteArray) (w : World) (h : Oz b B bs w) (hz : 1 ≤ z.size) (hlen : bs.length + z.size ≤ 1000000) :
    Calls Try.prog 15 #[.pointer (some ⟨b, 0, none⟩), .string z] w fun e w' => e = .returned (.tuple #[.int .i64 z.size, .nilIface]) ∧ Oz b B (bs ++ z.data.toList) w' ∧ Fr b B w w' ∧ Fy b w w' := by
  obtain ⟨p, L, hp, h, h0⟩ := h.ex
  refine (text_y _ _ b 0 B _ L bs z w h hp liesZ hlen).mono ?_
  rintro e w' ⟨rfl, ⟨L', h'⟩, f, y⟩
  refine ⟨rfl, ⟨_, L', .inr rfl, h', fun e => ?_⟩, f, y⟩
  have h2 := congrArg List.length (List.append_eq_nil_iff.1 e).2
  rw [← Lib.size_eq z, List.length_nil] at h2
  omega

end Go.Proofs.Yteimfjlogjdakaa.Bd
