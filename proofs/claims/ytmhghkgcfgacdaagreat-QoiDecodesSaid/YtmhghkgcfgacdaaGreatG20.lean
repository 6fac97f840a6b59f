/- Texts of one kind, one behind the other: Bd1, Bd4. -/
import Derived.Laws.AppendOwn
import Derived.Lib.Builder
import Derived.Lib.Hide
import Derived.Shelf.Strings.Builder1
import Derived.Test.YtmhghkgcfgacdaaGreatG07
/- A strings.Builder among the cells of a block: the check of its place, a byte, a text, its String. -/
namespace Go.Proofs.YtmhghkgcfgacdaaGreat.Bd
open Go.ChangeShapes Go.WideShapes Go.ChangeAt Go.RowKit Go.Proofs.YtmhghkgcfgacdaaGreat.Le
set_option linter.unusedVariables false

theorem infoU : (Tryz.prog.info? 5).map (fun i => (i.zero, i.size, i.bytes)) = some (some (.int .u8 0), 1, 1) := by kernel_rfl
/-- A builder at cell o of block b, whose cells are C (of type E); its rows lie at B or behind; it holds the bytes bs. -/
structure Bo (E : TypeId) (C : Array Value) (b o B : Nat) (p L : Value) (bs : List UInt8) (w : World) : Prop where
  blk : w.heap[b]? = some (.cells C E (0, 0))
  c0 : C[o]? = some p
  c1 : C[o + 1]? = some L
  own : w.ownsRow B 5 1 L bs.length (Lib.byteCells bs)
  lt : b < B
  Bw : B ≤ w.heap.size
/-- What a builder's call leaves. -/
structure Fr (b B : Nat) (w w' : World) : Prop where
  os : w'.os = w.os
  tape : w'.tape = w.tape
  output : w'.output = w.output
  size : w.heap.size ≤ w'.heap.size
  block : ∀ k, k < B → k ≠ b → w'.heap[k]? = w.heap[k]?
theorem Fr.refl (b B : Nat) (w : World) : Fr b B w w := ⟨rfl, rfl, rfl, Nat.le_refl _, fun _ _ _ => rfl⟩
theorem Fr.trans {b B : Nat} {u v w : World} (h : Fr b B u v) (k : Fr b B v w) : Fr b B u w :=
  ⟨k.os.trans h.os, k.tape.trans h.tape, k.output.trans h.output, Nat.le_trans h.size k.size, fun i h1 h2 => (k.block i h1 h2).trans (h.block i h1 h2)⟩
theorem Fr.set {b B : Nat} (w : World) (i : Nat) (v : Value) : Fr b B w (w.setCell ⟨b, i, none⟩ v) :=
  ⟨rfl, rfl, rfl, by simp [World.setCell], fun k _ h2 => Below.heap_setCell _ _ _ _ h2⟩
theorem Fr.row {b B : Nat} {w w' : World} {r : Option Nat} (g : w.grownBy w' r) (hB : B ≤ w.heap.size) (hr : ∀ k, r = some k → B ≤ k) : Fr b B w w' :=
  ⟨g.os, g.tape, g.output, g.size, fun k h1 _ => g.block k (by omega) (fun e => by have := hr k e.symm; omega)⟩
/-- To a caller whose world began below. -/
theorem Fr.gb {b B : Nat} {W w w' : World} (g : W.grownBy w none) (f : Fr b B w w') (hb : W.heap.size ≤ b) (hB : W.heap.size ≤ B) : W.grownBy w' none :=
  ⟨f.os.trans g.os, f.tape.trans g.tape, f.output.trans g.output, Nat.le_trans g.size f.size, fun k hk _ => (f.block k (by omega) (by omega)).trans (g.block k hk (by simp))⟩

section
variable {E : TypeId} {C : Array Value} {b o B : Nat} {p L : Value} {bs : List UInt8} {w : World}
theorem Bo.at0 (h : Bo E C b o B p L bs w) : w.cell? ⟨b, o, none⟩ = some p := (blk_cell h.blk o).trans h.c0
theorem Bo.at1 (h : Bo E C b o B p L bs w) : w.cell? ⟨b, o + 1, none⟩ = some L := (blk_cell h.blk (o + 1)).trans h.c1
theorem Bo.apart (h : Bo E C b o B p L bs w) : L.ownBlock ≠ some b := fun e => by
  have h1 := (h.own.lt b e).1
  have := h.lt
  omega
theorem get_set0 {C : Array Value} {o : Nat} {x p : Value} (h : C[o]? = some p) : (C.setIfInBounds o x)[o]? = some x := by
  have hlt : o < C.size := (Array.getElem?_eq_some_iff.1 h).1
  rw [Array.getElem?_setIfInBounds, if_pos rfl, if_pos hlt]
theorem get_setn {C : Array Value} {i o : Nat} {x : Value} (h : i ≠ o) : (C.setIfInBounds i x)[o]? = C[o]? := by
  rw [Array.getElem?_setIfInBounds, if_neg h]
theorem Bo.used (h : Bo E C b o B p L bs w) (q : Value) : Bo E (C.setIfInBounds o q) b o B q L bs (w.setCell ⟨b, o, none⟩ q) :=
  ⟨blk_set h.blk o q, get_set0 h.c0, (get_setn (by omega)).trans h.c1, h.own.kept (row := some b) (gb_set w b o q) (.inr h.apart), h.lt, Nat.le_trans h.Bw (gb_set w b o q).size⟩
end

set_option maxRecDepth 100000 in
theorem check_fresh (E : TypeId) (N b o : Nat) (w : World) (h0 : w.cell? ⟨b, o, none⟩ = some (.pointer none)) (hsh : w.shape? b = some (E, N)) (ho : o < N) (hfz : w.frozen? ⟨b, o, none⟩ = false)
    (hli : liesAt Tryz.prog Tryz.prog.depth E (N / Tryz.prog.cellsOf E) o 99 1 = true) :
    Calls Tryz.prog 55 #[.pointer (some ⟨b, o, none⟩)] w fun e w' => e = .returned (.tuple #[]) ∧ w' = w.setCell ⟨b, o, none⟩ (.pointer (some ⟨b, o, none⟩)) := by
  have hi : (Tryz.prog.info? 99).map (·.size) = some 2 := by kernel_rfl
  obtain ⟨j, hj, hjs⟩ := Option.map_eq_some_iff.1 hi
  have hp : Tryz.prog.underlying 97 = some (.pointer 99) := by kernel_rfl
  have hu : Tryz.prog.underlying 152 = some .unsafePointer := by kernel_rfl
  have k1 : ∀ _ : Nat, (convert 97 152 (.pointer (some ⟨b, o, none⟩))).run Tryz.prog w = .ok (.pointer (some ⟨b, o, none⟩)) w := fun _ => Lib.run_to_unsafe w ⟨b, o, none⟩ hp hu hj (by rw [hjs]; decide) hsh ho
  have k2 : (convert 152 97 (.pointer (some ⟨b, o, none⟩))).run Tryz.prog w = .ok (.pointer (some ⟨b, o, none⟩)) w := Lib.run_from_unsafe w ⟨b, o, none⟩ hu hp hj hsh hli
  have k3 := k1 0
  clear k1 hsh hli hp hu hi hj hjs
  go_enter Tryz.func55, Tryz.ntmps55
  go_wp2_with fail
  rw [run_callFunc_extern Tryz.func77 (by kernel_rfl) (by kernel_rfl) (by kernel_rfl) (e := Extern.AbiNoEscape.same) (by kernel_rfl)]
  rw [Lib.run_noEscape]
  simp only [Result.andThen]
  rw [Oper.upon_value]
  go_wp2
  go_end0
  exact ⟨rfl, rfl⟩
set_option maxRecDepth 100000 in
theorem check_used (b o : Nat) (w : World) (h0 : w.cell? ⟨b, o, none⟩ = some (.pointer (some ⟨b, o, none⟩))) :
    Calls Tryz.prog 55 #[.pointer (some ⟨b, o, none⟩)] w fun e w' => e = .returned (.tuple #[]) ∧ w' = w := by
  have hi : (Tryz.prog.info? 99).map (·.size) = some 2 := by kernel_rfl
  obtain ⟨j, hj, hjs⟩ := Option.map_eq_some_iff.1 hi
  have hp : Tryz.prog.underlying 97 = some (.pointer 99) := by kernel_rfl
  have k1 : (binOp .neq 97 (.pointer (some ⟨b, o, none⟩)) (.pointer (some ⟨b, o, none⟩))).run Tryz.prog w = .ok (.bool false) w := Lib.run_neq_ptr_same w _ hp hj
  clear hi hj hjs hp
  go_enter Tryz.func55, Tryz.ntmps55
  go_wp2
  go_end0
  exact ⟨rfl, rfl⟩
/-- Fresh or used. -/
def Ad (b o : Nat) (p : Value) : Prop := p = .pointer none ∨ p = .pointer (some ⟨b, o, none⟩)
theorem check_calls (E : TypeId) (C : Array Value) (b o B : Nat) (p L : Value) (bs : List UInt8) (w : World) (h : Bo E C b o B p L bs w) (hp : Ad b o p)
    (hli : liesAt Tryz.prog Tryz.prog.depth E (C.size / Tryz.prog.cellsOf E) o 99 1 = true) :
    Calls Tryz.prog 55 #[.pointer (some ⟨b, o, none⟩)] w fun e w' => e = .returned (.tuple #[]) ∧ Bo E (C.setIfInBounds o (.pointer (some ⟨b, o, none⟩))) b o B (.pointer (some ⟨b, o, none⟩)) L bs w' ∧ Fr b B w w' := by
  rcases hp with rfl | rfl
  · refine (check_fresh E C.size b o w h.at0 (by simp [World.shape?, h.blk]) (Array.getElem?_eq_some_iff.1 h.c0).1 (blk_free h.blk o) hli).mono ?_
    rintro e w' ⟨rfl, rfl⟩
    exact ⟨rfl, h.used _, Fr.set w o _⟩
  · refine (check_used b o w h.at0).mono ?_
    rintro e w' ⟨rfl, rfl⟩
    have e : C.setIfInBounds o (.pointer (some ⟨b, o, none⟩)) = C := by
      apply Array.ext_getElem?
      intro i
      by_cases hi : o = i
      · subst hi
        rw [get_set0 h.c0, h.c0]
      · exact get_setn hi
    rw [e]
    exact ⟨rfl, h, Fr.refl _ _ _⟩

end Go.Proofs.YtmhghkgcfgacdaaGreat.Bd

/- A strings.Builder among the cells of a block: what it holds as a text. -/
namespace Go.Proofs.YtmhghkgcfgacdaaGreat.Bd
open Go.ChangeShapes Go.WideShapes Go.ChangeAt Go.RowKit Go.Proofs.YtmhghkgcfgacdaaGreat.Le
set_option linter.unusedVariables false

set_option maxRecDepth 100000 in
set_option maxHeartbeats 1000000 in
theorem string_calls (E : TypeId) (C : Array Value) (b o B : Nat) (p L : Value) (bs : List UInt8) (w : World) (h : Bo E C b o B p L bs w) (h0 : bs ≠ []) (hlen : bs.length ≤ 1000000) :
    Calls Tryz.prog 41 #[.pointer (some ⟨b, o, none⟩)] w fun e w' => e = .returned (.string ⟨bs.toArray⟩) ∧ Fr b B w w' := by
  have hl0 : bs.length ≠ 0 := by simpa using h0
  have c1 := h.at1
  obtain ⟨g, cap, cur, rfl, hbg, hg, hnc, hcm, hcs, htake⟩ : ∃ g cap cur, L = .slice (some ⟨g, 0, none⟩) bs.length cap ∧ B ≤ g ∧ w.heap[g]? = some (.cells cur 5 (0, 0)) ∧ bs.length ≤ cap ∧ cap ≤ maxLen ∧ cur.size = cap * 1 ∧ cur.toList.take (bs.length * 1) = Lib.byteCells bs := by
    rcases h.own.2 with ⟨_, hz⟩ | ⟨g, cap, cur, hv, r⟩
    · exact absurd hz hl0
    · exact ⟨g, cap, cur, hv, r⟩
  have hown := h.own
  have hSD : (Builtin.unsafeSliceData_ #[25] 137 #[.slice (some ⟨g, 0, none⟩) bs.length cap]).run Tryz.prog w.drew = .ok (.pointer (some ⟨g, 0, none⟩)) w.drew :=
    Lib.run_unsafeSliceData_row _ _ _ _ _ _ (by omega)
  have hUS : (Builtin.unsafeString_ #[137, 3] 9 #[.pointer (some ⟨g, 0, none⟩), .int .i64 bs.length]).run Tryz.prog w.drew = .ok (.string ⟨bs.toArray⟩) (w.drew.freeze ⟨g, 0, none⟩ bs.length) := by
    refine Lib.run_unsafeString_row w.drew 137 3 9 5 (by kernel_rfl) (by kernel_rfl) g cur.size (by have hg' : w.drew.heap[g]? = some (.cells cur 5 (0, 0)) := hg; simp [World.shape?, hg']) bs h0 (by omega) (by unfold maxLen at hcm; omega) ?_
    intro j x hx
    have := hown.cells (g := g) rfl j (.int .u8 x.toNat) (by simp [Lib.byteCells, hx])
    exact this
  have c2 : w.drew.cell? ⟨b, o + 1, none⟩ = some (.slice (some ⟨g, 0, none⟩) bs.length cap) := c1
  have mixed : Tryz.prog.follows Departure.mixedOrders = true := by kernel_rfl
  have hfr : Fr b B w (w.drew.freeze ⟨g, 0, none⟩ bs.length) := by
    have hb := Lib.below_freeze (Below.drew (Below.refl B w)) (p := ⟨g, 0, none⟩) hbg bs.length
    exact ⟨hb.os, hb.tape, hb.output, hb.size, fun k h1 _ => hb.block k h1⟩
  have HF := Lib.hid hfr
  clear h h0 hfr hg htake hown hcs hnc hcm hbg hlen
  go_enter Tryz.func41, Tryz.ntmps41
  go_wp2
  go_region_o
  all_goals (go_wp2; go_ret; exact ⟨rfl, HF.out⟩)

end Go.Proofs.YtmhghkgcfgacdaaGreat.Bd
