/- Texts of one kind, one behind the other: Bx1, Bx2. -/
import Derived.RangeFuncOwn
import Derived.Test.YtmhghkgcfgacdaaGreatG20
import Derived.Test.YtmhghkgcfgacdaaGreatG21
/- A strings.Builder in a block of its own, its rows behind a bound: what its calls turn is that block and rows of bytes. -/
namespace Go.Proofs.YtmhghkgcfgacdaaGreat.Bd
open Go.ChangeShapes Go.WideShapes Go.ChangeAt Go.RowKit Go.Proofs.YtmhghkgcfgacdaaGreat.Le
set_option linter.unusedVariables false

/-- Whatever is neither block b nor a row of bytes stays. -/
structure Fy (b : Nat) (w w' : World) : Prop where
  size : w.heap.size ≤ w'.heap.size
  same : ∀ (k : Nat) (o : Obj), w.heap[k]? = some o → k ≠ b → (∀ C z, o ≠ .cells C 5 z) → w'.heap[k]? = some o
theorem Fy.refl (b : Nat) (w : World) : Fy b w w := ⟨Nat.le_refl _, fun _ _ h _ _ => h⟩
theorem Fy.trans {b : Nat} {u v w : World} (h : Fy b u v) (k : Fy b v w) : Fy b u w := ⟨Nat.le_trans h.size k.size, fun i o hi hb ho => k.same i o (h.same i o hi hb ho) hb ho⟩
theorem Fy.set (b : Nat) (w : World) (i : Nat) (v : Value) : Fy b w (w.setCell ⟨b, i, none⟩ v) := ⟨by simp [World.setCell], fun k o h hb _ => (Below.heap_setCell _ _ _ _ hb).trans h⟩
theorem Fy.alloc (b : Nat) (w : World) (o : Obj) : Fy b w (w.alloc o) := ⟨by show _ ≤ (w.heap.push o).size; simp, fun k o' h _ _ => blk_al h o⟩
theorem Fy.row {b : Nat} {w w' : World} {r : Option Nat} (g : w.grownBy w' r) (hr : ∀ k, r = some k → ∃ C z, w.heap[k]? = some (.cells C 5 z)) : Fy b w w' :=
  ⟨g.size, fun k o h _ ho => (g.block k (blk_lt h) (fun e => by
    obtain ⟨C, z, hc⟩ := hr k e.symm
    rw [h] at hc
    cases hc
    exact ho C z rfl)).trans h⟩
theorem own_rowU {w : World} {B n : Nat} {L : Value} {xs : List Value} (h : w.ownsRow B 5 1 L n xs) : ∀ k, L.ownBlock = some k → ∃ C z, w.heap[k]? = some (.cells C 5 z) := by
  intro k hk
  rcases h.2 with ⟨e, _⟩ | ⟨g, cap, cur, e, _, hg, _⟩
  · rw [e] at hk; cases hk
  · rw [e] at hk
    cases hk
    exact ⟨cur, _, hg⟩

set_option maxRecDepth 100000 in
theorem check_y (E : TypeId) (C : Array Value) (b o B : Nat) (p L : Value) (bs : List UInt8) (w : World) (h : Bo E C b o B p L bs w) (hp : Ad b o p)
    (hli : liesAt Tryz.prog Tryz.prog.depth E (C.size / Tryz.prog.cellsOf E) o 99 1 = true) :
    Calls Tryz.prog 55 #[.pointer (some ⟨b, o, none⟩)] w fun e w' => e = .returned (.tuple #[]) ∧ Bo E (C.setIfInBounds o (.pointer (some ⟨b, o, none⟩))) b o B (.pointer (some ⟨b, o, none⟩)) L bs w' ∧ Fr b B w w' ∧ Fy b w w' := by
  rcases hp with rfl | rfl
  · refine (check_fresh E C.size b o w h.at0 (by simp [World.shape?, h.blk]) (Array.getElem?_eq_some_iff.1 h.c0).1 (blk_free h.blk o) hli).mono ?_
    rintro e w' ⟨rfl, rfl⟩
    exact ⟨rfl, h.used _, Fr.set w o _, Fy.set b w o _⟩
  · refine (check_used b o w h.at0).mono ?_
    rintro e w' ⟨rfl, rfl⟩
    have e : C.setIfInBounds o (.pointer (some ⟨b, o, none⟩)) = C := by
      apply Array.ext_getElem?
      intro i
      by_cases hi : o = i
      · subst hi
        rw [get_set0 h.c0, h.c0]
      · exact get_setn hi
    rw [e]
    exact ⟨rfl, h, Fr.refl _ _ _, Fy.refl _ _⟩

set_option maxRecDepth 100000 in
set_option maxHeartbeats 1000000 in
theorem byte_y (E : TypeId) (C : Array Value) (b o B : Nat) (p L : Value) (bs : List UInt8) (c : UInt8) (w : World) (h : Bo E C b o B p L bs w) (hp : Ad b o p)
    (hli : liesAt Tryz.prog Tryz.prog.depth E (C.size / Tryz.prog.cellsOf E) o 99 1 = true) (hlen : bs.length ≤ 1000000) :
    Calls Tryz.prog 78 #[.pointer (some ⟨b, o, none⟩), .int .u8 (c.toNat : Int)] w fun e w' => e = .returned .nilIface ∧ (∃ L', Bo E (wrC C b o L') b o B (.pointer (some ⟨b, o, none⟩)) L' (bs ++ [c]) w') ∧ Fr b B w w' ∧ Fy b w w' := by
  obtain ⟨i0, hi, hz0, hz1, hz2⟩ := info_parts infoU
  have KC := Lib.hid (check_y E C b o B p L bs w h hp hli)
  have HI := Lib.hid (And.intro hi (And.intro hz0 (And.intro hz1 hz2)))
  have HLN := Lib.hid hlen
  clear h hp hli hi hz0 hz1 hz2 hlen
  go_enter Tryz.func78, Tryz.ntmps78
  go_wp2_with fail
  refine KC.out.mono ?_
  rintro e w1 ⟨rfl, h1, f1, y1⟩
  have c1 := h1.at1
  obtain ⟨va, vn, vc, rfl⟩ : ∃ a n c, L = .slice a n c := by
    rcases h1.own.2 with ⟨h, _⟩ | ⟨g, cap, cur, h, _⟩
    · exact ⟨_, _, _, h⟩
    · exact ⟨_, _, _, h⟩
  have hbl := blk_lt h1.blk
  have H1 := Lib.hid h1
  have HF1 := Lib.hid f1
  have HY1 := Lib.hid y1
  clear h1 f1 y1
  go_wp2_with (at_builtin; refine wpList_append_own _ rfl _ _ 25 rfl B 5 i0 (.int .u8 0) 1 1 (by kernel_rfl) HI.out.1 HI.out.2.1 HI.out.2.2.1 HI.out.2.2.2 rfl (by decide) _ _ _ rfl (H1.out.own.alloc _) ⟨w1.heap.size, 0, none⟩ 1 1 [.int .u8 (c.toNat : Int)] rfl rfl ?c1 ?c2 ?c3 ?c4 ?c5 ?_)
  case c1 =>
    intro j u hj
    match j, hj with
    | 0, hj => simp at hj; subst hj; simp [Addr.add]
  case c2 => intro u hu; simp at hu; subst hu; rfl
  case c3 => have := HLN.out; unfold maxLen; omega
  case c4 => have := HLN.out; omega
  case c5 => have := H1.out.Bw; simp; omega
  intro v' w2 hown' hgrow _
  have b2 : w2.heap[b]? = some (.cells (C.setIfInBounds o (.pointer (some ⟨b, o, none⟩))) E (0, 0)) :=
    (hgrow.block b (by simp; omega) (fun e => H1.out.apart e.symm)).trans (blk_al H1.out.blk _)
  have d1 : w2.cell? ⟨b, o + 1, none⟩ = some (.slice va vn vc) := (blk_cell b2 (o + 1)).trans H1.out.c1
  have z1 : w2.frozen? ⟨b, o + 1, none⟩ = false := blk_free b2 (o + 1)
  have G2 := Lib.hid hgrow
  have HB2 := Lib.hid b2
  have HO2 := Lib.hid hown'
  obtain ⟨ga, gn, gc, rfl⟩ : ∃ a n c, v' = .slice a n c := by
    rcases hown'.2 with ⟨h, _⟩ | ⟨g, cap, cur, h, _⟩
    · exact ⟨_, _, _, h⟩
    · exact ⟨_, _, _, h⟩
  have hg := blk_lt b2
  clear hgrow b2 hown' c1
  go_wp2
  go_ret
  have fr1 : Fr b B w1 w2 := Fr.row (gb_trans (gb_any (World.grownBy_alloc w1 _ none) _) G2.out) H1.out.Bw (fun k hk => (H1.out.own.lt k hk).1)
  have fy1 : Fy b w1 w2 := (Fy.alloc b w1 _).trans (Fy.row G2.out (own_rowU (H1.out.own.alloc _)))
  have hne : (Value.slice ga gn gc).ownBlock ≠ some b := fun e => by
    have h1 := (HO2.out.lt b e).1
    have := H1.out.lt
    omega
  refine ⟨rfl, ⟨.slice ga gn gc, ?_⟩, HF1.out.trans (fr1.trans (Fr.set w2 (o + 1) (.slice ga gn gc))), HY1.out.trans (fy1.trans (Fy.set b w2 (o + 1) (.slice ga gn gc)))⟩
  refine ⟨blk_set HB2.out (o + 1) _, ?_, ?_, ?_, H1.out.lt, ?_⟩
  · exact (get_setn (by omega)).trans H1.out.c0
  · exact get_set0 H1.out.c1
  · have hl : (bs ++ [c]).length = bs.length + 1 := by simp
    rw [hl, Lib.byteCells_append]
    exact HO2.out.kept (row := some b) (gb_set w2 b (o + 1) _) (.inr hne)
  · exact Nat.le_trans H1.out.Bw (Nat.le_trans fr1.size (gb_set w2 b (o + 1) _).size)

/-- A builder in block b, fresh or used, whose rows lie at B or behind. -/
structure Oz (b B : Nat) (bs : List UInt8) (w : World) : Prop where
  ex : ∃ p L, Ad b 0 p ∧ Bo 99 #[p, L] b 0 B p L bs w ∧ (bs = [] → L = .slice none 0 0)
theorem liesZ : liesAt Tryz.prog Tryz.prog.depth 99 ((2 : Nat) / Tryz.prog.cellsOf 99) 0 99 1 = true := by kernel_rfl
theorem Oz.start {b B : Nat} {w : World} (h : w.heap[b]? = some (.cells #[.pointer none, .slice none 0 0] 99 (0, 0))) (hb : b < B) (hB : B ≤ w.heap.size) : Oz b B [] w :=
  ⟨_, _, .inl rfl, ⟨h, rfl, rfl, World.ownsRow_nil _ _ _ _, hb, hB⟩, fun _ => rfl⟩
theorem Oz.blk {b B : Nat} {bs : List UInt8} {w : World} (h : Oz b B bs w) : ∃ C, w.heap[b]? = some (.cells C 99 (0, 0)) := by
  obtain ⟨p, L, _, h, _⟩ := h.ex
  exact ⟨_, h.blk⟩
/-- What turns neither the builder's block nor a row of bytes from B on leaves it. -/
theorem Oz.kept {b B : Nat} {bs : List UInt8} {w w' : World} {r : Option Nat} (h : Oz b B bs w) (g : w.grownBy w' r) (hr : ∀ k, r = some k → (k ≠ b ∧ k < B) ∨ ∃ o : Obj, w.heap[k]? = some o ∧ o.isCells = false) : Oz b B bs w' := by
  obtain ⟨p, L, hp, h, h0⟩ := h.ex
  refine ⟨p, L, hp, ⟨(g.block b (blk_lt h.blk) (fun e => ?_)).trans h.blk, h.c0, h.c1, h.own.kept g ?_, h.lt, Nat.le_trans h.Bw g.size⟩, h0⟩
  · rcases hr b e.symm with ⟨h1, _⟩ | ⟨o, ho, hc⟩
    · exact h1 rfl
    · rw [h.blk] at ho; cases ho; cases hc
  · cases r with
    | none => cases L.ownBlock <;> simp
    | some k =>
      refine .inr (fun e => ?_)
      rcases hr k rfl with ⟨_, h1⟩ | ⟨o, ho, hc⟩
      · have := (h.own.lt k e).1; omega
      · obtain ⟨C, z, hz⟩ := own_rowU h.own k e
        rw [hz] at ho; cases ho; cases hc
theorem byte_z (b B : Nat) (bs : List UInt8) (c : UInt8) (w : World) (h : Oz b B bs w) (hlen : bs.length ≤ 1000000) :
    Calls Tryz.prog 78 #[.pointer (some ⟨b, 0, none⟩), .int .u8 (c.toNat : Int)] w fun e w' => e = .returned .nilIface ∧ Oz b B (bs ++ [c]) w' ∧ Fr b B w w' ∧ Fy b w w' := by
  obtain ⟨p, L, hp, h, h0⟩ := h.ex
  refine (byte_y _ _ b 0 B _ L bs c w h hp liesZ hlen).mono ?_
  rintro e w' ⟨rfl, ⟨L', h'⟩, f, y⟩
  exact ⟨rfl, ⟨_, L', .inr rfl, h', fun e => by simp at e⟩, f, y⟩
theorem KeepsOthers.fy {b : Nat} {w w' : World} {C : Array Value} {E : TypeId} (f : Fy b w w') (h : w.heap[b]? = some (.cells C E (0, 0))) : KeepsOthers w w' :=
  ⟨f.size, fun k o hk ho => f.same k o hk (fun e => by rw [e, h] at hk; cases hk; cases ho) (fun C z e => by rw [e] at ho; cases ho)⟩

set_option maxRecDepth 100000 in
set_option maxHeartbeats 1000000 in
theorem string_nil (b o : Nat) (w : World) (c1 : w.cell? ⟨b, o + 1, none⟩ = some (.slice none 0 0)) :
    Calls Tryz.prog 41 #[.pointer (some ⟨b, o, none⟩)] w fun e w' => e = .returned (.string .empty) ∧ w.grownBy w' none := by
  have hSD : (Builtin.unsafeSliceData_ #[25] 137 #[.slice none 0 0]).run Tryz.prog w.drew = .ok (.pointer none) w.drew := Lib.run_unsafeSliceData_nil _ _ _ _ _
  have hUS : (Builtin.unsafeString_ #[137, 3] 9 #[.pointer none, .int .i64 0]).run Tryz.prog w.drew = .ok (.string .empty) w.drew := Lib.run_unsafeString_none _ _ _ _ _
  have c2 : w.drew.cell? ⟨b, o + 1, none⟩ = some (.slice none 0 0) := c1
  have mixed : Tryz.prog.follows Departure.mixedOrders = true := by kernel_rfl
  go_enter Tryz.func41, Tryz.ntmps41
  go_wp2
  go_region_o
  all_goals (go_wp2; go_ret; exact ⟨rfl, gb_drew _ _⟩)
theorem fy_freeze (b g : Nat) (w : World) {C : Array Value} {z : Nat × Nat} (h : w.heap[g]? = some (.cells C 5 z)) (n : Nat) : Fy b w (w.drew.freeze ⟨g, 0, none⟩ n) := by
  unfold World.freeze
  split
  · exact ⟨Nat.le_refl _, fun _ _ h _ _ => h⟩
  · refine ⟨by show w.heap.size ≤ (w.heap.modify g _).size; simp, fun k o hk _ ho => ?_⟩
    by_cases e : k = g
    · subst e
      rw [h] at hk
      cases hk
      exact absurd rfl (ho C z)
    · show (w.heap.modify g _)[k]? = some o
      rw [Array.getElem?_modify, if_neg (fun e' => e e'.symm)]
      exact hk
set_option maxRecDepth 100000 in
set_option maxHeartbeats 1000000 in
theorem string_y (E : TypeId) (C : Array Value) (b o B : Nat) (p L : Value) (bs : List UInt8) (w : World) (h : Bo E C b o B p L bs w) (h0 : bs ≠ []) (hlen : bs.length ≤ 1000000) :
    Calls Tryz.prog 41 #[.pointer (some ⟨b, o, none⟩)] w fun e w' => e = .returned (.string ⟨bs.toArray⟩) ∧ Fr b B w w' ∧ Fy b w w' := by
  have hl0 : bs.length ≠ 0 := by simpa using h0
  have c1 := h.at1
  obtain ⟨g, cap, cur, rfl, hbg, hg, hnc, hcm, hcs, htake⟩ : ∃ g cap cur, L = .slice (some ⟨g, 0, none⟩) bs.length cap ∧ B ≤ g ∧ w.heap[g]? = some (.cells cur 5 (0, 0)) ∧ bs.length ≤ cap ∧ cap ≤ maxLen ∧ cur.size = cap * 1 ∧ cur.toList.take (bs.length * 1) = Lib.byteCells bs := by
    rcases h.own.2 with ⟨_, hz⟩ | ⟨g, cap, cur, hv, r⟩
    · exact absurd hz hl0
    · exact ⟨g, cap, cur, hv, r⟩
  have hown := h.own
  have hSD : (Builtin.unsafeSliceData_ #[25] 137 #[.slice (some ⟨g, 0, none⟩) bs.length cap]).run Tryz.prog w.drew = .ok (.pointer (some ⟨g, 0, none⟩)) w.drew :=
    Lib.run_unsafeSliceData_row _ _ _ _ _ _ (by omega)
  have hUS : (Builtin.unsafeString_ #[137, 3] 9 #[.pointer (some ⟨g, 0, none⟩), .int .i64 bs.length]).run Tryz.prog w.drew = .ok (.string ⟨bs.toArray⟩) (w.drew.freeze ⟨g, 0, none⟩ bs.length) := by
    refine Lib.run_unsafeString_row w.drew 137 3 9 5 (by kernel_rfl) (by kernel_rfl) g cur.size (by have hg' : w.drew.heap[g]? = some (.cells cur 5 (0, 0)) := hg; simp [World.shape?, hg']) bs h0 (by omega) (by unfold maxLen at hcm; omega) ?_
    intro j x hx
    have := hown.cells (g := g) rfl j (.int .u8 x.toNat) (by simp [Lib.byteCells, hx])
    exact this
  have c2 : w.drew.cell? ⟨b, o + 1, none⟩ = some (.slice (some ⟨g, 0, none⟩) bs.length cap) := c1
  have mixed : Tryz.prog.follows Departure.mixedOrders = true := by kernel_rfl
  have hfr : Fr b B w (w.drew.freeze ⟨g, 0, none⟩ bs.length) := by
    have hb := Lib.below_freeze (Below.drew (Below.refl B w)) (p := ⟨g, 0, none⟩) hbg bs.length
    exact ⟨hb.os, hb.tape, hb.output, hb.size, fun k h1 _ => hb.block k h1⟩
  have HF := Lib.hid (And.intro hfr (fy_freeze b g w hg bs.length))
  clear h h0 hfr hg htake hown hcs hnc hcm hbg hlen
  go_enter Tryz.func41, Tryz.ntmps41
  go_wp2
  go_region_o
  all_goals (go_wp2; go_ret; exact ⟨rfl, HF.out.1, HF.out.2⟩)
theorem string_z (b B : Nat) (bs : List UInt8) (W w : World) (h : Oz b B bs w) (g : W.grownBy w none) (hb : W.heap.size ≤ b) (hlen : bs.length ≤ 1000000) :
    Calls Tryz.prog 41 #[.pointer (some ⟨b, 0, none⟩)] w fun e w' => e = .returned (.string ⟨bs.toArray⟩) ∧ W.grownBy w' none ∧ KeepsOthers w w' := by
  obtain ⟨p, L, hp, h, h0⟩ := h.ex
  by_cases e0 : bs = []
  · have hL := h0 e0
    subst e0
    subst hL
    refine (string_nil b 0 w h.at1).mono ?_
    rintro e w' ⟨rfl, g2⟩
    exact ⟨rfl, gb_trans g g2, KeepsOthers.of_grownBy g2 (fun j o e => by cases e)⟩
  · refine (string_y _ _ b 0 B _ L bs w h e0 hlen).mono ?_
    rintro e w' ⟨rfl, f, y⟩
    have := h.lt
    exact ⟨rfl, f.gb g hb (by omega), KeepsOthers.fy y h.blk⟩

end Go.Proofs.YtmhghkgcfgacdaaGreat.Bd

/- A strings.Builder whose rows lie behind a bound: bytes of a slice are written, a text is written. -/
namespace Go.Proofs.YtmhghkgcfgacdaaGreat.Bd
open Go.ChangeShapes Go.WideShapes Go.ChangeAt Go.RowKit Go.Proofs.YtmhghkgcfgacdaaGreat.Le
set_option linter.unusedVariables false

set_option maxRecDepth 100000 in
theorem check_g (E : TypeId) (C : Array Value) (b o B : Nat) (p L : Value) (bs : List UInt8) (w : World) (h : Bo E C b o B p L bs w) (hp : Ad b o p)
    (hli : liesAt Tryz.prog Tryz.prog.depth E (C.size / Tryz.prog.cellsOf E) o 99 1 = true) :
    Calls Tryz.prog 55 #[.pointer (some ⟨b, o, none⟩)] w fun e w' => e = .returned (.tuple #[]) ∧ Bo E (C.setIfInBounds o (.pointer (some ⟨b, o, none⟩))) b o B (.pointer (some ⟨b, o, none⟩)) L bs w' ∧ (Fr b B w w' ∧ Fy b w w') ∧ w.grownBy w' (some b) := by
  rcases hp with rfl | rfl
  · refine (check_fresh E C.size b o w h.at0 (by simp [World.shape?, h.blk]) (Array.getElem?_eq_some_iff.1 h.c0).1 (blk_free h.blk o) hli).mono ?_
    rintro e w' ⟨rfl, rfl⟩
    exact ⟨rfl, h.used _, ⟨Fr.set w o _, Fy.set b w o _⟩, gb_set w b o _⟩
  · refine (check_used b o w h.at0).mono ?_
    rintro e w' ⟨rfl, rfl⟩
    have e : C.setIfInBounds o (.pointer (some ⟨b, o, none⟩)) = C := by
      apply Array.ext_getElem?
      intro i
      by_cases hi : o = i
      · subst hi
        rw [get_set0 h.c0, h.c0]
      · exact get_setn hi
    rw [e]
    exact ⟨rfl, h, ⟨Fr.refl _ _ _, Fy.refl _ _⟩, gb_refl _ _⟩

set_option maxRecDepth 100000 in
set_option maxHeartbeats 1000000 in
theorem write_y (E : TypeId) (C : Array Value) (b o B : Nat) (p L : Value) (bs : List UInt8) (q n : Nat) (l : List UInt8) (w : World) (h : Bo E C b o B p L bs w) (hp : Ad b o p)
    (hli : liesAt Tryz.prog Tryz.prog.depth E (C.size / Tryz.prog.cellsOf E) o 99 1 = true) (hlen : bs.length + n ≤ 1000000) (hn : l.length = n) (hn1 : 1 ≤ n) (hq : w.heap[q]? = some (.cells (Lib.byteCells l).toArray 5 (0, 0))) (hqb : q ≠ b) :
    Calls Tryz.prog 80 #[.pointer (some ⟨b, o, none⟩), .slice (some ⟨q, 0, none⟩) n n] w fun e w' => e = .returned (.tuple #[.int .i64 (n : Int), .nilIface]) ∧ (∃ L', Bo E (wrC C b o L') b o B (.pointer (some ⟨b, o, none⟩)) L' (bs ++ l) w') ∧ Fr b B w w' ∧ Fy b w w' := by
  obtain ⟨i0, hi, hz0, hz1, hz2⟩ := info_parts infoU
  have KC := Lib.hid (check_g E C b o B p L bs w h hp hli)
  have HI := Lib.hid (And.intro hi (And.intro hz0 (And.intro hz1 hz2)))
  have HLN := Lib.hid (And.intro hlen (And.intro hn hn1))
  have HQ := Lib.hid (And.intro hq hqb)
  clear h hp hli hi hz0 hz1 hz2 hlen hn hn1 hq hqb
  go_enter Tryz.func80, Tryz.ntmps80
  go_wp2_with fail
  refine KC.out.mono ?_
  rintro e w1 ⟨rfl, h1, fy, gg⟩
  have c1 := h1.at1
  obtain ⟨va, vn, vc, rfl⟩ : ∃ a n c, L = .slice a n c := by
    rcases h1.own.2 with ⟨h, _⟩ | ⟨g, cap, cur, h, _⟩
    · exact ⟨_, _, _, h⟩
    · exact ⟨_, _, _, h⟩
  have hbl := blk_lt h1.blk
  have H1 := Lib.hid h1
  have HF1 := Lib.hid fy
  have HQ1 := Lib.hid ((gg.block q (blk_lt HQ.out.1) (fun e => HQ.out.2 (by cases e; rfl))).trans HQ.out.1)
  clear h1 fy gg
  go_wp2_with (at_builtin; refine wpList_append_own _ rfl _ _ 25 rfl B 5 i0 (.int .u8 0) 1 1 (by kernel_rfl) HI.out.1 HI.out.2.1 HI.out.2.2.1 HI.out.2.2.2 rfl (by decide) _ _ _ rfl H1.out.own ⟨q, 0, none⟩ n n (Lib.byteCells l) rfl (by simp [Lib.byteCells, HLN.out.2.1]) ?c1 ?c2 ?c3 ?c4 ?c5 ?_)
  case c1 =>
    intro j u hj
    have : w1.cell? ⟨q, 0 + j, none⟩ = some u := by
      rw [Nat.zero_add, blk_cell HQ1.out j]
      simpa using hj
    have hadd : (⟨q, 0, none⟩ : Addr).add j = ⟨q, 0 + j, none⟩ := by unfold Addr.add; split <;> simp_all
    rw [hadd]
    exact this
  case c2 =>
    intro u hu
    simp only [Lib.byteCells, List.mem_map] at hu
    obtain ⟨x, _, rfl⟩ := hu
    rfl
  case c3 => have := HLN.out.1; unfold maxLen; omega
  case c4 => have := HLN.out.1; omega
  case c5 => exact H1.out.Bw
  intro v' w2 hown' hgrow _
  have b2 : w2.heap[b]? = some (.cells (C.setIfInBounds o (.pointer (some ⟨b, o, none⟩))) E (0, 0)) :=
    (hgrow.block b hbl (fun e => H1.out.apart e.symm)).trans H1.out.blk
  have d1 : w2.cell? ⟨b, o + 1, none⟩ = some (.slice va vn vc) := (blk_cell b2 (o + 1)).trans H1.out.c1
  have z1 : w2.frozen? ⟨b, o + 1, none⟩ = false := blk_free b2 (o + 1)
  have G2 := Lib.hid hgrow
  have HB2 := Lib.hid b2
  have HO2 := Lib.hid hown'
  obtain ⟨ga, gn, gc, rfl⟩ : ∃ a n c, v' = .slice a n c := by
    rcases hown'.2 with ⟨h, _⟩ | ⟨g, cap, cur, h, _⟩
    · exact ⟨_, _, _, h⟩
    · exact ⟨_, _, _, h⟩
  have hg := blk_lt b2
  clear hgrow b2 hown' c1
  go_wp2
  go_ret2
  have fr1 : Fr b B w1 w2 := Fr.row G2.out H1.out.Bw (fun k hk => (H1.out.own.lt k hk).1)
  have fy1 : Fy b w1 w2 := Fy.row G2.out (own_rowU H1.out.own)
  have hne : (Value.slice ga gn gc).ownBlock ≠ some b := fun e => by
    have h1 := (HO2.out.lt b e).1
    have := H1.out.lt
    omega
  refine ⟨rfl, ⟨.slice ga gn gc, ?_⟩, HF1.out.1.trans (fr1.trans (Fr.set w2 (o + 1) (.slice ga gn gc))), HF1.out.2.trans (fy1.trans (Fy.set b w2 (o + 1) (.slice ga gn gc)))⟩
  refine ⟨blk_set HB2.out (o + 1) _, ?_, ?_, ?_, H1.out.lt, ?_⟩
  · exact (get_setn (by omega)).trans H1.out.c0
  · exact get_set0 H1.out.c1
  · have hl : (bs ++ l).length = bs.length + n := by rw [List.length_append, HLN.out.2.1]
    rw [hl, Lib.byteCells_append]
    exact HO2.out.kept (row := some b) (gb_set w2 b (o + 1) _) (.inr hne)
  · exact Nat.le_trans H1.out.Bw (Nat.le_trans fr1.size (gb_set w2 b (o + 1) _).size)

theorem write_z (b B q n : Nat) (bs l : List UInt8) (w : World) (h : Oz b B bs w) (hn : l.length = n) (hn1 : 1 ≤ n) (hq : w.heap[q]? = some (.cells (Lib.byteCells l).toArray 5 (0, 0))) (hqb : q ≠ b) (hlen : bs.length + n ≤ 1000000) :
    Calls Tryz.prog 80 #[.pointer (some ⟨b, 0, none⟩), .slice (some ⟨q, 0, none⟩) n n] w fun e w' => e = .returned (.tuple #[.int .i64 (n : Int), .nilIface]) ∧ Oz b B (bs ++ l) w' ∧ Fr b B w w' ∧ Fy b w w' := by
  obtain ⟨p, L, hp, h, h0⟩ := h.ex
  refine (write_y _ _ b 0 B _ L bs q n l w h hp liesZ hlen hn hn1 hq hqb).mono ?_
  rintro e w' ⟨rfl, ⟨L', h'⟩, f, y⟩
  refine ⟨rfl, ⟨_, L', .inr rfl, h', fun e => ?_⟩, f, y⟩
  have h2 := congrArg List.length (List.append_eq_nil_iff.1 e).2
  rw [hn, List.length_nil] at h2
  omega

set_option maxRecDepth 100000 in
set_option maxHeartbeats 1000000 in
theorem text_y (E : TypeId) (C : Array Value) (b o B : Nat) (p L : Value) (bs : List UInt8) (z : ByteArray) (w : World) (h : Bo E C b o B p L bs w) (hp : Ad b o p)
    (hli : liesAt Tryz.prog Tryz.prog.depth E (C.size / Tryz.prog.cellsOf E) o 99 1 = true) (hlen : bs.length + z.size ≤ 1000000) :
    Calls Tryz.prog 38 #[.pointer (some ⟨b, o, none⟩), .string z] w fun e w' => e = .returned (.tuple #[.int .i64 z.size, .nilIface]) ∧ (∃ L', Bo E (wrC C b o L') b o B (.pointer (some ⟨b, o, none⟩)) L' (bs ++ z.data.toList) w') ∧ Fr b B w w' ∧ Fy b w w' := by
  obtain ⟨i0, hi, hz0, hz1, hz2⟩ := info_parts infoU
  have KC := Lib.hid (check_g E C b o B p L bs w h hp hli)
  have HI := Lib.hid (And.intro hi (And.intro hz0 (And.intro hz1 hz2)))
  have HLN := Lib.hid hlen
  clear h hp hli hi hz0 hz1 hz2 hlen
  go_enter Tryz.func38, Tryz.ntmps38
  go_wp2_with fail
  refine KC.out.mono ?_
  rintro e w1 ⟨rfl, h1, fy, gg⟩
  have c1 := h1.at1
  obtain ⟨va, vn, vc, rfl⟩ : ∃ a n c, L = .slice a n c := by
    rcases h1.own.2 with ⟨h, _⟩ | ⟨g, cap, cur, h, _⟩
    · exact ⟨_, _, _, h⟩
    · exact ⟨_, _, _, h⟩
  have hbl := blk_lt h1.blk
  have H1 := Lib.hid h1
  have HF1 := Lib.hid fy
  clear h1 fy gg
  go_wp2_with (at_builtin; refine Lib.wpList_append_own_string _ rfl _ _ 25 9 rfl B 5 i0 (by kernel_rfl) (by kernel_rfl) HI.out.1 HI.out.2.1 HI.out.2.2.1 HI.out.2.2.2 _ _ _ rfl H1.out.own z rfl ?c3 ?c4 ?c5 ?_)
  case c3 => have := HLN.out; unfold maxLen; omega
  case c4 => have := HLN.out; omega
  case c5 => exact H1.out.Bw
  intro v' w2 hown' hgrow _
  have b2 : w2.heap[b]? = some (.cells (C.setIfInBounds o (.pointer (some ⟨b, o, none⟩))) E (0, 0)) :=
    (hgrow.block b hbl (fun e => H1.out.apart e.symm)).trans H1.out.blk
  have d1 : w2.cell? ⟨b, o + 1, none⟩ = some (.slice va vn vc) := (blk_cell b2 (o + 1)).trans H1.out.c1
  have z1 : w2.frozen? ⟨b, o + 1, none⟩ = false := blk_free b2 (o + 1)
  have G2 := Lib.hid hgrow
  have HB2 := Lib.hid b2
  have HO2 := Lib.hid hown'
  obtain ⟨ga, gn, gc, rfl⟩ : ∃ a n c, v' = .slice a n c := by
    rcases hown'.2 with ⟨h, _⟩ | ⟨g, cap, cur, h, _⟩
    · exact ⟨_, _, _, h⟩
    · exact ⟨_, _, _, h⟩
  have hg := blk_lt b2
  clear hgrow b2 hown' c1
  go_wp2
  go_ret2
  have fr1 : Fr b B w1 w2 := Fr.row G2.out H1.out.Bw (fun k hk => (H1.out.own.lt k hk).1)
  have fy1 : Fy b w1 w2 := Fy.row G2.out (own_rowU H1.out.own)
  have hne : (Value.slice ga gn gc).ownBlock ≠ some b := fun e => by
    have h1 := (HO2.out.lt b e).1
    have := H1.out.lt
    omega
  refine ⟨rfl, ⟨.slice ga gn gc, ?_⟩, HF1.out.1.trans (fr1.trans (Fr.set w2 (o + 1) (.slice ga gn gc))), HF1.out.2.trans (fy1.trans (Fy.set b w2 (o + 1) (.slice ga gn gc)))⟩
  refine ⟨blk_set HB2.out (o + 1) _, ?_, ?_, ?_, H1.out.lt, ?_⟩
  · exact (get_setn (by omega)).trans H1.out.c0
  · exact get_set0 H1.out.c1
  · have hl : (bs ++ z.data.toList).length = bs.length + z.size := by rw [List.length_append, Lib.size_eq]
    rw [hl, Lib.byteCells_append]
    exact HO2.out.kept (row := some b) (gb_set w2 b (o + 1) _) (.inr hne)
  · exact Nat.le_trans H1.out.Bw (Nat.le_trans fr1.size (gb_set w2 b (o + 1) _).size)
theorem text_z (b B : Nat) (bs : List UInt8) (z : ByteArray) (w : World) (h : Oz b B bs w) (hz : 1 ≤ z.size) (hlen : bs.length + z.size ≤ 1000000) :
    Calls Tryz.prog 38 #[.pointer (some ⟨b, 0, none⟩), .string z] w fun e w' => e = .returned (.tuple #[.int .i64 z.size, .nilIface]) ∧ Oz b B (bs ++ z.data.toList) w' ∧ Fr b B w w' ∧ Fy b w w' := by
  obtain ⟨p, L, hp, h, h0⟩ := h.ex
  refine (text_y _ _ b 0 B _ L bs z w h hp liesZ hlen).mono ?_
  rintro e w' ⟨rfl, ⟨L', h'⟩, f, y⟩
  refine ⟨rfl, ⟨_, L', .inr rfl, h', fun e => ?_⟩, f, y⟩
  have h2 := congrArg List.length (List.append_eq_nil_iff.1 e).2
  rw [← Lib.size_eq z, List.length_nil] at h2
  omega

end Go.Proofs.YtmhghkgcfgacdaaGreat.Bd
