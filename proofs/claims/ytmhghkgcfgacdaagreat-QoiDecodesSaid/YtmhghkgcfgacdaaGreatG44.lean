/- Texts of one kind, one behind the other: Qe4. -/
import Derived.Deep.AppendLies
import Derived.Test.YtmhghkgcfgacdaaGreatG26
import Derived.Test.YtmhghkgcfgacdaaGreatG40
import Derived.Test.YtmhghkgcfgacdaaGreatG43
/- Layer 26: what the document's Decode carries from step to step. -/
namespace Go.Proofs.YtmhghkgcfgacdaaGreat.Qo
open Go.ChangeShapes Go.WideShapes Go.ChangeAt Go.RowKit
open Go.Proofs.YtmhghkgcfgacdaaGreat.Le Go.Proofs.YtmhghkgcfgacdaaGreat.Tk Go.Proofs.YtmhghkgcfgacdaaGreat.Sr Go.Proofs.YtmhghkgcfgacdaaGreat.Sh Go.Proofs.YtmhghkgcfgacdaaGreat.Qw Go.Proofs.YtmhghkgcfgacdaaGreat.Qd
open Go.Proofs.YtmhghkgcfgacdaaGreat.Ra hiding bt
set_option linter.unusedVariables false

theorem makeQ (n : Nat) (w : World) (hn : n ≤ 2000000) :
    (Instr.makeSlice 37 (.int .i64 (n : Int)) (.int .i64 (n : Int))).run Tryz.prog w = .ok (.slice (some ⟨w.heap.size, 0, none⟩) n n) (w.alloc (.cells (madeCells (Value.agg #[.int .u8 0, .int .u8 0, .int .u8 0, .int .u8 0]).cells (n * 4)) 67)) := by
  have h0 : (Tryz.prog.info? 67).map (fun i => (i.zero, i.size, i.bytes)) = some (some (.agg #[.int .u8 0, .int .u8 0, .int .u8 0, .int .u8 0]), 4, 4) := by kernel_rfl
  obtain ⟨i0, hi, hz0, hz1, hz2⟩ : ∃ i : TypeInfo, Tryz.prog.info? 67 = some i ∧ i.zero = some (.agg #[.int .u8 0, .int .u8 0, .int .u8 0, .int .u8 0]) ∧ i.size = 4 ∧ i.bytes = 4 := by
    cases e : Tryz.prog.info? 67 with
    | none => rw [e] at h0; cases h0
    | some i =>
      rw [e] at h0
      simp only [Option.map_some, Option.some.injEq, Prod.mk.injEq] at h0
      exact ⟨i, rfl, h0.1, h0.2.1, h0.2.2⟩
  have h := run_make (P := Tryz.prog) w 37 67 i0 (.agg #[.int .u8 0, .int .u8 0, .int .u8 0, .int .u8 0]) (by kernel_rfl) hi hz0 .i64 .i64 n n (by omega) (by omega) (by rw [hz2]; omega) (by omega)
  rw [hz1] at h
  simp only [Int.toNat_natCast] at h
  exact h
/-- The seen ones' cells at the start. -/
def zQ : Array Value := Array.replicate 256 (.int .u8 0)
theorem made_zQ : madeCells (Value.agg #[.int .u8 0, .int .u8 0, .int .u8 0, .int .u8 0]).cells (64 * 4) = zQ := by kernel_rfl
theorem make64 (w : World) : (Instr.makeSlice 37 (.int .i64 64) (.int .i64 64)).run Tryz.prog w = .ok (.slice (some ⟨w.heap.size, 0, none⟩) 64 64) (w.alloc (.cells zQ 67)) := by
  have h := makeQ 64 w (by decide)
  rw [made_zQ] at h
  exact h

/-- The seen ones, in a block. -/
structure SB (g : Nat) (seen : Nat → C4) (w : World) : Prop where
  ex : ∃ C : Array Value, w.heap[g]? = some (.cells C 67 (0, 0)) ∧ C.size = 256 ∧ ∀ k j, k < 64 → j < 4 → C[4 * k + j]? = some (.int .u8 ((seen k).ch j : Nat))
theorem SB.sn {g : Nat} {seen : Nat → C4} {w : World} (h : SB g seen w) : SnD g seen w := fun k j hk hj => by
  obtain ⟨C, h1, h2, h3⟩ := h.ex
  rw [blk_cell h1]
  exact h3 k j hk hj
theorem SB.blk {g : Nat} {seen : Nat → C4} {w : World} (h : SB g seen w) : ∃ C : Array Value, w.heap[g]? = some (.cells C 67 (0, 0)) := by
  obtain ⟨C, h1, _⟩ := h.ex
  exact ⟨C, h1⟩
theorem SB.same {g : Nat} {seen : Nat → C4} {w w' : World} (h : SB g seen w) (q : ∀ o, w.heap[g]? = some o → w'.heap[g]? = some o) : SB g seen w' := by
  obtain ⟨C, h1, h2, h3⟩ := h.ex
  exact ⟨C, q _ h1, h2, h3⟩
theorem SB.lt {g : Nat} {seen : Nat → C4} {w : World} (h : SB g seen w) : g < w.heap.size := by
  obtain ⟨C, h1⟩ := h.blk
  exact blk_lt h1
theorem SB.kept {g : Nat} {seen : Nat → C4} {w w' : World} (h : SB g seen w) (q : w.grownBy w' none) : SB g seen w' := h.same fun o ho => (q.block g (blk_lt ho) (by simp)).trans ho
theorem SB.put {g o : Nat} {seen : Nat → C4} {w : World} (h : SB g seen w) (c : C4) (ho : o = 4 * pl c) :
    SB g (fun k => if k = pl c then c else seen k) ((((w.setCell ⟨g, o, none⟩ (.int .u8 c.r)).setCell ⟨g, o + 1, none⟩ (.int .u8 c.g)).setCell ⟨g, o + 2, none⟩ (.int .u8 c.b)).setCell ⟨g, o + 3, none⟩ (.int .u8 c.a)) := by
  obtain ⟨C, h1, h2, h3⟩ := h.ex
  have hp := pl_lt c
  refine ⟨st4 C o c.r c.g c.b c.a, blk_st4 h1 o c.r c.g c.b c.a, by rw [st4_size]; exact h2, fun k j hk hj => ?_⟩
  subst ho
  by_cases e : k = pl c
  · subst e
    simp only [if_true]
    exact st4_at C _ c j hj (by omega)
  · simp only [if_neg e]
    rw [st4_far _ _ _ _ _ _ _ (by omega)]
    exact h3 k j hk hj
theorem SB.zero {g : Nat} {w : World} (h : w.heap[g]? = some (.cells zQ 67 (0, 0))) : SB g R0.seen w := by
  refine ⟨zQ, h, by unfold zQ; rw [Array.size_replicate], fun k j hk hj => ?_⟩
  have e : (R0.seen k).ch j = 0 := by
    show (⟨0, 0, 0, 0⟩ : C4).ch j = 0
    unfold C4.ch
    split <;> rfl
  rw [e]
  unfold zQ
  rw [Array.getElem?_replicate, if_pos (by omega)]
  rfl

/-- A colour's cells. -/
def cC (c : C4) : Array Value := #[.int .u8 c.r, .int .u8 c.g, .int .u8 c.b, .int .u8 c.a]
/-- What Decode carries between two steps. -/
structure DS (W : World) (rs ob gs lb B : Nat) (w h : Int) (L : Value) (R : QR) (u : World) : Prop where
  T : TI W rs ob B w h L R.i (qL (CF R) R.i) u
  s : SB gs R.seen u
  l : u.heap[lb]? = some (.cells (cC R.last) 67 (0, 0))
/-- And while a step's pixels are put behind the others. -/
structure DI (W : World) (rs ob gs lb cb B : Nat) (w h : Int) (L : Value) (i : Nat) (l : List (Nat × Nat × Nat × Nat)) (last c : C4) (seen : Nat → C4) (u : World) : Prop where
  T : TI W rs ob B w h L i l u
  s : SB gs seen u
  l : u.heap[lb]? = some (.cells (cC last) 67 (0, 0))
  c : u.heap[cb]? = some (.cells (cC c) 67 (0, 0))
  n : L.ownBlock ≠ some cb
/-- Where the blocks lie. -/
structure PL (W : World) (rs ob gs lb B : Nat) : Prop where
  g : gs < B
  l : lb < B
  gl : gs ≠ lb
  gr : gs ≠ rs
  go : gs ≠ ob
  lr : lb ≠ rs
  lo : lb ≠ ob
  Wg : W.heap.size ≤ gs
  Wl : W.heap.size ≤ lb

theorem DS.kept {W : World} {rs ob gs lb B : Nat} {w h : Int} {L : Value} {R : QR} {u u' : World} (D : DS W rs ob gs lb B w h L R u) (q : u.grownBy u' none) : DS W rs ob gs lb B w h L R u' :=
  ⟨D.T.grown q, D.s.kept q, (q.block lb (blk_lt D.l) (by simp)).trans D.l⟩
theorem DI.kept {W : World} {rs ob gs lb cb B i : Nat} {w h : Int} {L : Value} {l : List (Nat × Nat × Nat × Nat)} {last c : C4} {seen : Nat → C4} {u u' : World} (D : DI W rs ob gs lb cb B w h L i l last c seen u) (q : u.grownBy u' none) : DI W rs ob gs lb cb B w h L i l last c seen u' :=
  ⟨D.T.grown q, D.s.kept q, (q.block lb (blk_lt D.l) (by simp)).trans D.l, (q.block cb (blk_lt D.c) (by simp)).trans D.c, D.n⟩
theorem qL_congr (C D : Nat → Nat → Int) (n : Nat) (h : ∀ k, k < n → ∀ j, C k j = D k j) : qL C n = qL D n := by
  unfold qL
  apply List.map_congr_left
  intro k hk
  rw [List.mem_range] at hk
  unfold qC
  rw [h k hk 0, h k hk 1, h k hk 2, h k hk 3]
theorem qC_nxt (s : ByteArray) (R : QR) (k : Nat) (hk : R.i ≤ k) : qC (CF (nxt s R)) k = ((colQ s R.p R.last R.seen).r, (colQ s R.p R.last R.seen).g, (colQ s R.p R.last R.seen).b, (colQ s R.p R.last R.seen).a) := by
  have e : (nxt s R).px k = colQ s R.p R.last R.seen := if_neg (by omega)
  unfold qC CF
  rw [e]
  simp [C4.ch]
theorem four_other {w : World} {g k o : Nat} {x : Option Obj} {v0 v1 v2 v3 : Value} (h : w.heap[k]? = x) (hne : k ≠ g) :
    ((((w.setCell ⟨g, o, none⟩ v0).setCell ⟨g, o + 1, none⟩ v1).setCell ⟨g, o + 2, none⟩ v2).setCell ⟨g, o + 3, none⟩ v3).heap[k]? = x :=
  blk_other (blk_other (blk_other (blk_other h hne) hne) hne) hne
theorem ti_four {W : World} {rs ob B : Nat} {w h : Int} {L : Value} {i : Nat} {l : List (Nat × Nat × Nat × Nat)} {u : World} (T : TI W rs ob B w h L i l u) (g o : Nat) (v0 v1 v2 v3 : Value) (hg : g < B) (hW : W.heap.size ≤ g) (h1 : rs ≠ g) (h2 : ob ≠ g) :
    TI W rs ob B w h L i l ((((u.setCell ⟨g, o, none⟩ v0).setCell ⟨g, o + 1, none⟩ v1).setCell ⟨g, o + 2, none⟩ v2).setCell ⟨g, o + 3, none⟩ v3) :=
  ⟨four_other T.frs h1, four_other T.fob h2, ownsRow_setCell_below (ownsRow_setCell_below (ownsRow_setCell_below (ownsRow_setCell_below T.own hg v0) hg v1) hg v2) hg v3,
    gb_own (gb_own (gb_own (gb_own T.g hW (gb_set _ _ _ _)) hW (gb_set _ _ _ _)) hW (gb_set _ _ _ _)) hW (gb_set _ _ _ _), T.rlt, T.olt, T.ro, T.Wh, T.Wr,
    Nat.le_trans T.Bu (Nat.le_trans (gb_set _ g o v0).size (Nat.le_trans (gb_set _ g (o + 1) v1).size (Nat.le_trans (gb_set _ g (o + 2) v2).size (gb_set _ g (o + 3) v3).size)))⟩
/-- The last pixel is another one. -/
theorem DI.last {W : World} {rs ob gs lb cb B i : Nat} {w h : Int} {L : Value} {l : List (Nat × Nat × Nat × Nat)} {last c : C4} {seen : Nat → C4} {u : World} (P : PL W rs ob gs lb B) (D : DI W rs ob gs lb cb B w h L i l last c seen u) (hcb : B ≤ cb) :
    DI W rs ob gs lb cb B w h L i l c c seen ((((u.setCell ⟨lb, 0, none⟩ (.int .u8 c.r)).setCell ⟨lb, 1, none⟩ (.int .u8 c.g)).setCell ⟨lb, 2, none⟩ (.int .u8 c.b)).setCell ⟨lb, 3, none⟩ (.int .u8 c.a)) := by
  have hl := P.l
  refine ⟨ti_four D.T lb 0 _ _ _ _ P.l P.Wl (fun e => P.lr e.symm) (fun e => P.lo e.symm), D.s.same fun o ho => four_other (o := 0) ho P.gl, ?_, four_other (o := 0) D.c (fun e => by omega), D.n⟩
  have h := blk_st4 D.l 0 c.r c.g c.b c.a
  exact h
/-- It is one of the seen ones. -/
theorem DI.put {W : World} {rs ob gs lb cb B i o : Nat} {w h : Int} {L : Value} {l : List (Nat × Nat × Nat × Nat)} {last c : C4} {seen : Nat → C4} {u : World} (P : PL W rs ob gs lb B) (D : DI W rs ob gs lb cb B w h L i l last c seen u) (hcb : B ≤ cb) (ho : o = 4 * pl c) :
    DI W rs ob gs lb cb B w h L i l last c (fun k => if k = pl c then c else seen k) ((((u.setCell ⟨gs, o, none⟩ (.int .u8 c.r)).setCell ⟨gs, o + 1, none⟩ (.int .u8 c.g)).setCell ⟨gs, o + 2, none⟩ (.int .u8 c.b)).setCell ⟨gs, o + 3, none⟩ (.int .u8 c.a)) := by
  have hg := P.g
  exact ⟨ti_four D.T gs o _ _ _ _ P.g P.Wg (fun e => P.gr e.symm) (fun e => P.go e.symm), D.s.put c ho, four_other D.l (fun e => P.gl e.symm), four_other D.c (fun e => by omega), D.n⟩
/-- Behind a step. -/
theorem DS.of {s : ByteArray} {W : World} {rs ob gs lb cb B i t : Nat} {w h : Int} {L : Value} {c : C4} {R : QR} {u : World} (hi : R.i = i) (ht : tms (bt s R.p) = t) (hc : colQ s R.p R.last R.seen = c) (D : DI W rs ob gs lb cb B w h L (i + t) (qL (CF (nxt s R)) (i + t)) c c (fun k => if k = pl c then c else R.seen k) u) :
    DS W rs ob gs lb B w h L (nxt s R) u := by
  subst hi ht hc
  exact ⟨D.T, D.s, D.l⟩
/-- A colour is put behind the list, at a plain region's. -/
theorem qcol_app {ops : Array Oper} {rest : List Oper} {o : Oper} {a : Act} {Q : Exit → Act → World → Prop} {s x : Operand} {W u : World} {rs ob gs lb cb B i : Nat} {w h : Int} {L : Value} {l : List (Nat × Nat × Nat × Nat)} {last c : C4} {seen : Nat → C4}
    (P : PL W rs ob gs lb B) (D : DI W rs ob gs lb cb B w h L i l last c seen u) (hi : i < 1000000) (hcb : cb ≠ ob)
    (hgd : o.guard = none) (ho : o.op = .call { callee := .builtin .append, args := #[s, x], argTypes := #[37, 37] }) (hs : a.eval s = L) (hx : a.eval x = .slice (some ⟨u.heap.size, 0, none⟩) 1 1)
    (hh : ∀ g cap w', DI W rs ob gs lb cb B w h (.slice (some ⟨g, 0, none⟩) (i + 1) cap) (i + 1) (l ++ [(c.r, c.g, c.b, c.a)]) last c seen (w'.setCell ⟨ob, 2, none⟩ (.slice (some ⟨g, 0, none⟩) (i + 1) cap)) → w'.cell? ⟨ob, 2, none⟩ = some L → w'.frozen? ⟨ob, 2, none⟩ = false →
      wpList Tryz.prog ops Q rest (a.put o.dst (.slice (some ⟨g, 0, none⟩) (i + 1) cap)) w') :
    wpList Tryz.prog ops Q (o :: rest) a (u.alloc (pcB (c.r, c.g, c.b, c.a))) := by
  obtain ⟨i0, hi0, hz0, hz1, hz2⟩ := info_parts row_color
  have T := D.T
  refine wpList_append_lies (u.alloc (pcB (c.r, c.g, c.b, c.a))) hgd s x 37 ho B 67 i0 _ 4 4 (by kernel_rfl) hi0 hz0 hz1 hz2 rfl (by decide) L i (cells l) hs (T.own.alloc _) ⟨u.heap.size, 0, none⟩ 1 1 (pc (c.r, c.g, c.b, c.a)) hx rfl ?_ (pc_one _) (by decide) (by unfold maxLen; omega) (by omega)
    (by rw [size_alloc]; exact Nat.le_succ_of_le T.Bu) (u.heap.size + 1) (size_alloc _ _) (fun g cap w' hown hgrow h3 _ => hh g cap w' ⟨(T.grown (World.grownBy_alloc u (pcB (c.r, c.g, c.b, c.a)) none)).app hgrow hown, ?_, ?_, ?_, ?_⟩ ?_ ?_)
  · exact World.news_of_block (cs := #[.int .u8 (c.r : Int), .int .u8 (c.g : Int), .int .u8 (c.b : Int), .int .u8 (c.a : Int)]) (t := 67) (fr := (0, 0)) (heap_alloc_new u _)
  · refine D.s.same fun o ho => ?_
    exact (Below.heap_setCell _ _ _ gs P.go).trans ((hgrow.block gs (by rw [size_alloc]; exact Nat.lt_succ_of_lt (blk_lt ho)) (T.apart P.g)).trans (blk_al ho _))
  · exact (Below.heap_setCell _ _ _ lb P.lo).trans ((hgrow.block lb (by rw [size_alloc]; exact Nat.lt_succ_of_lt (blk_lt D.l)) (T.apart P.l)).trans (blk_al D.l _))
  · exact (Below.heap_setCell _ _ _ cb hcb).trans ((hgrow.block cb (by rw [size_alloc]; exact Nat.lt_succ_of_lt (blk_lt D.c)) (fun e => D.n e.symm)).trans (blk_al D.c _))
  · intro e
    have e2 : g = cb := Option.some.inj e
    have hc := blk_lt D.c
    rcases h3 with h3 | h3
    · exact D.n (by rw [← e2]; exact h3)
    · have h4 : g = u.heap.size + 1 := h3
      omega
  all_goals
    have o6 := (hgrow.block ob (Nat.lt_of_lt_of_le T.olt (Nat.le_trans T.Bu (World.grownBy_alloc u (pcB (c.r, c.g, c.b, c.a)) none).size)) (T.apart T.olt)).trans (blk_al T.fob _)
  · exact blk_cell o6 2
  · exact blk_free o6 2

end Go.Proofs.YtmhghkgcfgacdaaGreat.Qo
