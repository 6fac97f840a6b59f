/- Texts of one kind, one behind the other: Qv1, Qv2. -/
import Derived.Deep.AppendLies
import Derived.Deep.LoopGhost
import Derived.Deep.Onto
import Derived.Deep.RegionHeld3
import Derived.Deep.RegionLaw
import Derived.Test.YtmhghkgcfgacdaaGreatG15
import Derived.Test.YtmhghkgcfgacdaaGreatG16
import Derived.Test.YtmhghkgcfgacdaaGreatG17
/- Lists of pixels of four channels; the document's image under way (written by wip/gen/qd13.py). -/
namespace Go.Proofs.YtmhghkgcfgacdaaGreat.Qd
open Go.ChangeShapes Go.WideShapes Go.ChangeAt Go.RowKit
open Go.Proofs.YtmhghkgcfgacdaaGreat.Le Go.Proofs.YtmhghkgcfgacdaaGreat.Tk Go.Proofs.YtmhghkgcfgacdaaGreat.Ra Go.Proofs.YtmhghkgcfgacdaaGreat.Sh
set_option linter.unusedVariables false

def pc (x : Nat × Nat × Nat × Nat) : List Value := [.int .u8 (x.1 : Int), .int .u8 (x.2.1 : Int), .int .u8 (x.2.2.1 : Int), .int .u8 (x.2.2.2 : Int)]
def cells (l : List (Nat × Nat × Nat × Nat)) : List Value := l.flatMap pc
theorem cells_snoc (l : List (Nat × Nat × Nat × Nat)) (x : Nat × Nat × Nat × Nat) : cells (l ++ [x]) = cells l ++ pc x := by simp [cells, List.flatMap_append]
/-- A pixel's bytes; a raster's of which the pixels l are laid. -/
def pb (x : Nat × Nat × Nat × Nat) : List UInt8 := [UInt8.ofNat x.1, UInt8.ofNat x.2.1, UInt8.ofNat x.2.2.1, UInt8.ofNat x.2.2.2]
def pbs (l : List (Nat × Nat × Nat × Nat)) : List UInt8 := l.flatMap pb
theorem pbs_snoc (l : List (Nat × Nat × Nat × Nat)) (x : Nat × Nat × Nat × Nat) : pbs (l ++ [x]) = pbs l ++ pb x := by simp [pbs, List.flatMap_append]
theorem pbs_len : ∀ l : List (Nat × Nat × Nat × Nat), (pbs l).length = 4 * l.length
  | [] => rfl
  | x :: l => by
    have h := pbs_len l
    show (pb x ++ pbs l).length = _
    rw [List.length_append, h, List.length_cons]
    show 4 + _ = _
    omega
def rb (l : List (Nat × Nat × Nat × Nat)) (N : Nat) : ByteArray := ⟨(pbs l ++ List.replicate (4 * (N - l.length)) 0).toArray⟩
theorem rb_list (l : List (Nat × Nat × Nat × Nat)) (N : Nat) : (rb l N).data.toList = pbs l ++ List.replicate (4 * (N - l.length)) 0 := rfl
theorem rb_nil (N : Nat) : rb [] N = Bu.rep 0 (4 * N) := rfl
theorem rb_size (l : List (Nat × Nat × Nat × Nat)) (N : Nat) (h : l.length ≤ N) : (rb l N).size = 4 * N := by
  rw [Lib.size_eq, rb_list, List.length_append, pbs_len, List.length_replicate]
  omega
theorem rb_full (l : List (Nat × Nat × Nat × Nat)) : rb l l.length = ⟨(pbs l).toArray⟩ := by
  unfold rb
  rw [Nat.sub_self, Nat.mul_zero]
  simp
theorem rb_put (l : List (Nat × Nat × Nat × Nat)) (x : Nat × Nat × Nat × Nat) (N : Nat) (h : l.length < N) :
    Bu.putS (rb l N) (four (UInt8.ofNat x.1) (UInt8.ofNat x.2.1) (UInt8.ofNat x.2.2.1) (UInt8.ofNat x.2.2.2)) (4 * l.length) = rb (l ++ [x]) N := by
  have e : (Bu.putS (rb l N) (four (UInt8.ofNat x.1) (UInt8.ofNat x.2.1) (UInt8.ofNat x.2.2.1) (UInt8.ofNat x.2.2.2)) (4 * l.length)).data.toList = (rb (l ++ [x]) N).data.toList := by
    rw [Bu.putS_list, rb_list, rb_list, pbs_snoc, four_size]
    have h1 : 4 * l.length = (pbs l).length := (pbs_len l).symm
    rw [List.take_append_of_le_length (by omega), List.take_of_length_le (by omega), List.drop_append, List.drop_eq_nil_of_le (by omega), List.nil_append, List.drop_replicate]
    rw [List.length_append, show 4 * (N - l.length) - (4 * l.length + 4 - (pbs l).length) = 4 * (N - (l.length + [x].length)) from by
      show _ = 4 * (N - (l.length + 1))
      omega]
    rfl
  have h2 : ∀ a b : ByteArray, a.data.toList = b.data.toList → a = b := by
    intro a b hab
    cases a
    cases b
    congr 1
    exact Array.ext' hab
  exact h2 _ _ e

theorem row_color : (Tryz.prog.info? 67).map (fun i => (i.zero, i.size, i.bytes)) = some (some (.agg #[.int .u8 0, .int .u8 0, .int .u8 0, .int .u8 0]), 4, 4) := by kernel_rfl

/-- What is carried through the loop over the pixels: the head, the result, the image so far, whose list L is. -/
structure TI (W : World) (rs ob B : Nat) (w h : Int) (L : Value) (i : Nat) (l : List (Nat × Nat × Nat × Nat)) (u : World) : Prop where
  frs : u.heap[rs]? = some (.cells #[.int .i64 0, .int .i64 0, .slice none 0 0, .int .i64 0, .int .i64 0] 39 (0, 0))
  fob : u.heap[ob]? = some (.cells #[.int .i64 w, .int .i64 h, L, .int .i64 0, .int .i64 0] 39 (0, 0))
  own : u.ownsRow B 67 4 L i (cells l)
  g : W.grownBy u none
  rlt : rs < B
  olt : ob < B
  ro : rs ≠ ob
  Wh : W.heap.size ≤ ob
  Wr : W.heap.size ≤ rs
  Bu : B ≤ u.heap.size
section
variable {W : World} {rs ob B : Nat} {w h : Int} {L : Value} {i : Nat} {l : List (Nat × Nat × Nat × Nat)} {u u' : World}
theorem TI.grown (H : TI W rs ob B w h L i l u) (g : u.grownBy u' none) : TI W rs ob B w h L i l u' :=
  ⟨(g.block rs (blk_lt H.frs) (by simp)).trans H.frs, (g.block ob (blk_lt H.fob) (by simp)).trans H.fob,
    H.own.kept g (by cases L.ownBlock <;> simp), gb_trans H.g g, H.rlt, H.olt, H.ro, H.Wh, H.Wr, Nat.le_trans H.Bu g.size⟩
/-- The list is another one, in its own row. -/
theorem TI.app {L' : Value} {x : Nat × Nat × Nat × Nat} (H : TI W rs ob B w h L i l u) (g : u.grownBy u' L.ownBlock) (hL : u'.ownsRow B 67 4 L' (i + 1) (cells l ++ pc x)) :
    TI W rs ob B w h L' (i + 1) (l ++ [x]) (u'.setCell ⟨ob, 2, none⟩ L') := by
  have hn : ∀ q, q < B → some q ≠ L.ownBlock := fun q hq e => by
    have := (H.own.lt q e.symm).1
    omega
  have h2 := (g.block rs (blk_lt H.frs) (hn rs H.rlt)).trans H.frs
  have h3 := (g.block ob (blk_lt H.fob) (hn ob H.olt)).trans H.fob
  refine ⟨blk_other h2 H.ro, blk_set h3 2 L', ?_, ?_, H.rlt, H.olt, H.ro, H.Wh, H.Wr, ?_⟩
  · rw [cells_snoc]
    exact ownsRow_setCell_below hL H.olt L'
  · have hW := H.Wh
    have hO := H.olt
    refine gb_own (k := ob) ⟨g.os.trans H.g.os, g.tape.trans H.g.tape, g.output.trans H.g.output, Nat.le_trans H.g.size g.size, fun q hq _ => ?_⟩ hW (gb_set _ _ _ _)
    exact (g.block q (Nat.lt_of_lt_of_le hq H.g.size) (hn q (by omega))).trans (H.g.block q hq (by simp))
  · exact Nat.le_trans H.Bu (Nat.le_trans g.size (gb_set u' ob 2 L').size)
theorem TI.apart (H : TI W rs ob B w h L i l u) {q : Nat} (hq : q < B) : some q ≠ L.ownBlock := fun e => by
  have := (H.own.lt q e.symm).1
  omega
theorem TI.oc0 (H : TI W rs ob B w h L i l u) : u.cell? ⟨ob, 0, none⟩ = some (.int .i64 w) := blk_cell H.fob 0
theorem TI.oc1 (H : TI W rs ob B w h L i l u) : u.cell? ⟨ob, 1, none⟩ = some (.int .i64 h) := blk_cell H.fob 1
theorem TI.oc2 (H : TI W rs ob B w h L i l u) : u.cell? ⟨ob, 2, none⟩ = some (L) := blk_cell H.fob 2
theorem TI.oc3 (H : TI W rs ob B w h L i l u) : u.cell? ⟨ob, 3, none⟩ = some (.int .i64 0) := blk_cell H.fob 3
theorem TI.oc4 (H : TI W rs ob B w h L i l u) : u.cell? ⟨ob, 4, none⟩ = some (.int .i64 0) := blk_cell H.fob 4
theorem TI.rc0 (H : TI W rs ob B w h L i l u) : u.cell? ⟨rs, 0, none⟩ = some (.int .i64 0) := blk_cell H.frs 0
theorem TI.rc1 (H : TI W rs ob B w h L i l u) : u.cell? ⟨rs, 1, none⟩ = some (.int .i64 0) := blk_cell H.frs 1
theorem TI.rc2 (H : TI W rs ob B w h L i l u) : u.cell? ⟨rs, 2, none⟩ = some (.slice none 0 0) := blk_cell H.frs 2
theorem TI.rc3 (H : TI W rs ob B w h L i l u) : u.cell? ⟨rs, 3, none⟩ = some (.int .i64 0) := blk_cell H.frs 3
theorem TI.rc4 (H : TI W rs ob B w h L i l u) : u.cell? ⟨rs, 4, none⟩ = some (.int .i64 0) := blk_cell H.frs 4
theorem TI.rfree (H : TI W rs ob B w h L i l u) (o : Nat) : u.frozen? ⟨rs, o, none⟩ = false := blk_free H.frs o
theorem TI.sl (H : TI W rs ob B w h L i l u) : ∃ a n c, L = .slice a n c := by
  rcases H.own.2 with ⟨h, _⟩ | ⟨g, cap, cur, h, _⟩
  · exact ⟨_, _, _, h⟩
  · exact ⟨_, _, _, h⟩
end

theorem pc_one (x : Nat × Nat × Nat × Nat) : ∀ u ∈ pc x, u.oneCell' = true := by
  intro u hu
  simp [pc] at hu
  rcases hu with rfl | rfl | rfl | rfl <;> rfl
/-- A pixel's block. -/
def pcB (x : Nat × Nat × Nat × Nat) : Obj := .cells #[.int .u8 (x.1 : Int), .int .u8 (x.2.1 : Int), .int .u8 (x.2.2.1 : Int), .int .u8 (x.2.2.2 : Int)] 67
/-- A colour is put behind a list: a step of a region that draws its order. -/
theorem color_step {ops : Array Oper} {o : Oper} {a : Act} {K : Act → World → Prop} {Q : Exit → Act → World → Prop} {E : Prop} {s x : Operand} {B i : Nat} {L : Value} {l : List (Nat × Nat × Nat × Nat)} {w5 : World} (c : Nat × Nat × Nat × Nat)
    (hown : w5.ownsRow B 67 4 L i (cells l)) (hi : i < 1000000) (hB : B ≤ w5.heap.size)
    (hgd : o.guard = none) (ho : o.op = .call { callee := .builtin .append, args := #[s, x], argTypes := #[37, 37] }) (hs : a.eval s = L) (hx : a.eval x = .slice (some ⟨w5.heap.size, 0, none⟩) 1 1)
    (h : ∀ g cap w', w'.ownsRow B 67 4 (.slice (some ⟨g, 0, none⟩) (i + 1) cap) (i + 1) (cells l ++ pc c) → (w5.alloc (pcB c)).grownBy w' L.ownBlock → K (a.put o.dst (.slice (some ⟨g, 0, none⟩) (i + 1) cap)) w') :
    if Region.wanted o (yielded ops a.tmps) = true then Oper.wp Tryz.prog o a (w5.alloc (pcB c)) K Q else E := by
  obtain ⟨i0, hi0, hz0, hz1, hz2⟩ := info_parts row_color
  refine step_append_lies (w5.alloc (pcB c)) hgd s x 37 ho B 67 i0 _ 4 4 (by kernel_rfl) hi0 hz0 hz1 hz2 rfl (by decide) L i (cells l) hs (hown.alloc _) ⟨w5.heap.size, 0, none⟩ 1 1 (pc c) hx rfl ?_ (pc_one c) (by decide) (by unfold maxLen; omega) (by omega)
    (by rw [size_alloc]; omega) (w5.heap.size + 1) (size_alloc _ _) (fun g cap w' h1 h2 _ _ => h g cap w' h1 h2)
  exact World.news_of_block (cs := #[.int .u8 (c.1 : Int), .int .u8 (c.2.1 : Int), .int .u8 (c.2.2.1 : Int), .int .u8 (c.2.2.2 : Int)]) (t := 67) (fr := (0, 0)) (heap_alloc_new w5 _)
/-- The same, with all that is carried. -/
theorem color_app {ops : Array Oper} {o : Oper} {a : Act} {K : Act → World → Prop} {Q : Exit → Act → World → Prop} {E : Prop} {s x : Operand} {W w5 : World} {rs ob B i : Nat} {w h : Int} {L : Value} {l : List (Nat × Nat × Nat × Nat)} (c : Nat × Nat × Nat × Nat)
    (T : TI W rs ob B w h L i l w5) (hi : i < 1000000)
    (hgd : o.guard = none) (ho : o.op = .call { callee := .builtin .append, args := #[s, x], argTypes := #[37, 37] }) (hs : a.eval s = L) (hx : a.eval x = .slice (some ⟨w5.heap.size, 0, none⟩) 1 1)
    (hh : ∀ g cap w', TI W rs ob B w h (.slice (some ⟨g, 0, none⟩) (i + 1) cap) (i + 1) (l ++ [c]) (w'.setCell ⟨ob, 2, none⟩ (.slice (some ⟨g, 0, none⟩) (i + 1) cap)) → w'.cell? ⟨ob, 2, none⟩ = some L → w'.frozen? ⟨ob, 2, none⟩ = false →
      K (a.put o.dst (.slice (some ⟨g, 0, none⟩) (i + 1) cap)) w') :
    if Region.wanted o (yielded ops a.tmps) = true then Oper.wp Tryz.prog o a (w5.alloc (pcB c)) K Q else E := by
  refine color_step c T.own hi T.Bu hgd ho hs hx (fun g cap w' hown hgrow => hh g cap w' ((T.grown (World.grownBy_alloc w5 (pcB c) none)).app hgrow hown) ?_ ?_)
  all_goals
    have o6 := (hgrow.block ob (Nat.lt_of_lt_of_le T.olt (Nat.le_trans T.Bu (World.grownBy_alloc w5 (pcB c) none).size)) (T.apart T.olt)).trans (blk_al T.fob _)
  · exact blk_cell o6 2
  · exact blk_free o6 2

/-- A colour is put behind the list: at a plain region's. -/
theorem tcol_app {ops : Array Oper} {rest : List Oper} {o : Oper} {a : Act} {Q : Exit → Act → World → Prop} {s x : Operand} {W u : World} {rs ob B i : Nat} {w h : Int} {L : Value} {l : List (Nat × Nat × Nat × Nat)} (c : Nat × Nat × Nat × Nat)
    (T : TI W rs ob B w h L i l u) (hi : i < 1000000)
    (hgd : o.guard = none) (ho : o.op = .call { callee := .builtin .append, args := #[s, x], argTypes := #[37, 37] }) (hs : a.eval s = L) (hx : a.eval x = .slice (some ⟨u.heap.size, 0, none⟩) 1 1)
    (hh : ∀ g cap w', TI W rs ob B w h (.slice (some ⟨g, 0, none⟩) (i + 1) cap) (i + 1) (l ++ [c]) (w'.setCell ⟨ob, 2, none⟩ (.slice (some ⟨g, 0, none⟩) (i + 1) cap)) → w'.cell? ⟨ob, 2, none⟩ = some L → w'.frozen? ⟨ob, 2, none⟩ = false →
      wpList Tryz.prog ops Q rest (a.put o.dst (.slice (some ⟨g, 0, none⟩) (i + 1) cap)) w') :
    wpList Tryz.prog ops Q (o :: rest) a (u.alloc (pcB c)) := by
  obtain ⟨i0, hi0, hz0, hz1, hz2⟩ := info_parts row_color
  refine wpList_append_lies (u.alloc (pcB c)) hgd s x 37 ho B 67 i0 _ 4 4 (by kernel_rfl) hi0 hz0 hz1 hz2 rfl (by decide) L i (cells l) hs (T.own.alloc _) ⟨u.heap.size, 0, none⟩ 1 1 (pc c) hx rfl ?_ (pc_one c) (by decide) (by unfold maxLen; omega) (by omega)
    (by rw [size_alloc]; exact Nat.le_succ_of_le T.Bu) (u.heap.size + 1) (size_alloc _ _) (fun g cap w' hown hgrow _ _ => hh g cap w' ((T.grown (World.grownBy_alloc u (pcB c) none)).app hgrow hown) ?_ ?_)
  · exact World.news_of_block (cs := #[.int .u8 (c.1 : Int), .int .u8 (c.2.1 : Int), .int .u8 (c.2.2.1 : Int), .int .u8 (c.2.2.2 : Int)]) (t := 67) (fr := (0, 0)) (heap_alloc_new u _)
  all_goals
    have o6 := (hgrow.block ob (Nat.lt_of_lt_of_le T.olt (Nat.le_trans T.Bu (World.grownBy_alloc u (pcB c) none).size)) (T.apart T.olt)).trans (blk_al T.fob _)
  · exact blk_cell o6 2
  · exact blk_free o6 2

theorem gb_own3 {a b : World} {k : Nat} {v0 v1 v2 : Value} (h : a.grownBy b none) (hk : a.heap.size ≤ k) : a.grownBy (((b.setCell ⟨k, 0, none⟩ v0).setCell ⟨k, 1, none⟩ v1).setCell ⟨k, 2, none⟩ v2) none :=
  gb_own (gb_own (gb_own h hk (gb_set _ _ _ _)) hk (gb_set _ _ _ _)) hk (gb_set _ _ _ _)
/-- A colour's quad; the list of the first n. -/
def qC (C : Nat → Nat → Int) (k : Nat) : Nat × Nat × Nat × Nat := ((C k 0).toNat, (C k 1).toNat, (C k 2).toNat, (C k 3).toNat)
def qL (C : Nat → Nat → Int) (n : Nat) : List (Nat × Nat × Nat × Nat) := (List.range n).map (qC C)
theorem qL_len (C : Nat → Nat → Int) (n : Nat) : (qL C n).length = n := by simp [qL]
theorem qL_snoc (C : Nat → Nat → Int) (n : Nat) : qL C (n + 1) = qL C n ++ [qC C n] := by simp [qL, List.range_succ]
theorem rk_qL (C : Nat → Nat → Int) (N : Nat) : ∀ k, k ≤ N → rk C N k = rb (qL C k) N
  | 0, _ => (rb_nil N).symm
  | k + 1, h => by
    have h1 := rk_qL C N k (by omega)
    have h2 := rb_put (qL C k) (qC C k) N (by rw [qL_len]; omega)
    rw [qL_len] at h2
    rw [qL_snoc, ← h2, ← h1]
    rfl
theorem rk_full (C : Nat → Nat → Int) (N : Nat) : rk C N N = ⟨(pbs (qL C N)).toArray⟩ := by
  rw [rk_qL C N N (Nat.le_refl _)]
  have h := rb_full (qL C N)
  rw [qL_len] at h
  exact h
/-- All numbers are bytes. -/
def L255 (l : List (Nat × Nat × Nat × Nat)) : Prop := ∀ t, t ∈ l → t.1 ≤ 255 ∧ t.2.1 ≤ 255 ∧ t.2.2.1 ≤ 255 ∧ t.2.2.2 ≤ 255
theorem qL_255 (C : Nat → Nat → Int) (n : Nat) (hC : ∀ k j, 0 ≤ C k j ∧ C k j ≤ 255) : L255 (qL C n) := by
  intro t ht
  simp [qL] at ht
  obtain ⟨k, _, rfl⟩ := ht
  have h0 := hC k 0
  have h1 := hC k 1
  have h2 := hC k 2
  have h3 := hC k 3
  simp only [qC]
  omega

end Go.Proofs.YtmhghkgcfgacdaaGreat.Qd

/- The document's Bytes of a list of pixels (written by wip/gen/qd13.py). -/
namespace Go.Proofs.YtmhghkgcfgacdaaGreat.Qd
open Go.ChangeShapes Go.WideShapes Go.ChangeAt Go.RowKit
open Go.Proofs.YtmhghkgcfgacdaaGreat.Le Go.Proofs.YtmhghkgcfgacdaaGreat.Tk Go.Proofs.YtmhghkgcfgacdaaGreat.Ra Go.Proofs.YtmhghkgcfgacdaaGreat.Sh
set_option linter.unusedVariables false

/-- Four bytes of a pixel's own. -/
def b4 (x : Nat × Nat × Nat × Nat) : Obj := .cells #[.int .u8 (x.1 : Int), .int .u8 (x.2.1 : Int), .int .u8 (x.2.2.1 : Int), .int .u8 (x.2.2.2 : Int)] 5
/-- Four bytes are put behind a row: a step of a region that draws its order. -/
theorem by4_step {ops : Array Oper} {o : Oper} {a : Act} {K : Act → World → Prop} {Q : Exit → Act → World → Prop} {E : Prop} {s x : Operand} {B i : Nat} {L : Value} {xs : List Value} {w5 : World} (c : Nat × Nat × Nat × Nat)
    (hown : w5.ownsRow B 5 1 L i xs) (hi : i < 1000000) (hB : B ≤ w5.heap.size)
    (hgd : o.guard = none) (ho : o.op = .call { callee := .builtin .append, args := #[s, x], argTypes := #[25, 25] }) (hs : a.eval s = L) (hx : a.eval x = .slice (some ⟨w5.heap.size, 0, none⟩) 4 4)
    (h : ∀ g cap w', w'.ownsRow B 5 1 (.slice (some ⟨g, 0, none⟩) (i + 4) cap) (i + 4) (xs ++ pc c) → (w5.alloc (b4 c)).grownBy w' L.ownBlock → K (a.put o.dst (.slice (some ⟨g, 0, none⟩) (i + 4) cap)) w') :
    if Region.wanted o (yielded ops a.tmps) = true then Oper.wp Tryz.prog o a (w5.alloc (b4 c)) K Q else E := by
  obtain ⟨i0, hi0, hz0, hz1, hz2⟩ := info_parts Bu.row8
  refine step_append_lies (w5.alloc (b4 c)) hgd s x 25 ho B 5 i0 _ 1 1 (by kernel_rfl) hi0 hz0 hz1 hz2 rfl (by decide) L i xs hs (hown.alloc _) ⟨w5.heap.size, 0, none⟩ 4 4 (pc c) hx rfl ?_ (pc_one c) (by decide) (by unfold maxLen; omega) (by omega)
    (by rw [size_alloc]; omega) (w5.heap.size + 1) (size_alloc _ _) (fun g cap w' h1 h2 _ _ => h g cap w' h1 h2)
  exact World.news_of_block (cs := #[.int .u8 (c.1 : Int), .int .u8 (c.2.1 : Int), .int .u8 (c.2.2.1 : Int), .int .u8 (c.2.2.2 : Int)]) (t := 5) (fr := (0, 0)) (heap_alloc_new w5 _)

/-- The pixels l lie in block b. -/
def CB (b : Nat) (l : List (Nat × Nat × Nat × Nat)) (w : World) : Prop := ∃ cur, w.heap[b]? = some (.cells cur 67 (0, 0)) ∧ cur.toList.take (l.length * 4) = cells l
theorem cells_len (l : List (Nat × Nat × Nat × Nat)) : (cells l).length = l.length * 4 := by
  induction l with
  | nil => rfl
  | cons x l ih =>
    show (pc x ++ cells l).length = _
    rw [List.length_append, ih, List.length_cons]
    show 4 + _ = _
    omega
theorem cells_at (l : List (Nat × Nat × Nat × Nat)) (i : Nat) (x : Nat × Nat × Nat × Nat) (h : l[i]? = some x) (j : Nat) (hj : j < 4) : (cells l)[i * 4 + j]? = (pc x)[j]? := by
  induction l generalizing i with
  | nil => cases h
  | cons y l ih =>
    show (pc y ++ cells l)[i * 4 + j]? = _
    cases i with
    | zero =>
      simp at h
      subst h
      rw [Nat.zero_mul, Nat.zero_add, List.getElem?_append_left (by show j < 4; exact hj)]
    | succ i =>
      rw [List.getElem?_append_right (by show 4 ≤ _; omega)]
      have := ih i (by simpa using h)
      rw [← this]
      congr 1
      show (i + 1) * 4 + j - 4 = _
      omega
theorem CB.at {b : Nat} {l : List (Nat × Nat × Nat × Nat)} {w : World} (H : CB b l w) (i : Nat) (x : Nat × Nat × Nat × Nat) (h : l[i]? = some x) (j : Nat) (hj : j < 4) (v : Value) (hv : (pc x)[j]? = some v) : w.cell? ⟨b, i * 4 + j, none⟩ = some v := by
  obtain ⟨cur, hb, hc⟩ := H
  rw [blk_cell hb (i * 4 + j)]
  have hi : i < l.length := (List.getElem?_eq_some_iff.1 h).1
  have e := cells_at l i x h j hj
  rw [← hc, List.getElem?_take, if_pos (by omega), hv] at e
  rw [← e]
  exact (Array.getElem?_toList).symm
theorem CB.kept {b : Nat} {l : List (Nat × Nat × Nat × Nat)} {w w' : World} {r : Option Nat} (H : CB b l w) (g : w.grownBy w' r) (h : some b ≠ r) : CB b l w' := by
  obtain ⟨cur, hb, hc⟩ := H
  exact ⟨cur, (g.block b (blk_lt hb) h).trans hb, hc⟩
theorem CB.lt {b : Nat} {l : List (Nat × Nat × Nat × Nat)} {w : World} (H : CB b l w) : b < w.heap.size := by
  obtain ⟨cur, hb, hc⟩ := H
  exact blk_lt hb
/-- The bytes' cells. -/
theorem byc (l : List (Nat × Nat × Nat × Nat)) (h : L255 l) : cells l = Lib.byteCells (pbs l) := by
  induction l with
  | nil => rfl
  | cons x l ih =>
    have hx := h x List.mem_cons_self
    have e : ∀ v : Nat, v ≤ 255 → ((UInt8.ofNat v).toNat : Int) = (v : Int) := fun v hv => by
      rw [UInt8.toNat_ofNat']
      omega
    show pc x ++ cells l = Lib.byteCells (pb x ++ pbs l)
    rw [Lib.byteCells_append, ih (fun t ht => h t (List.mem_cons_of_mem _ ht))]
    congr 1
    unfold pc pb Lib.byteCells
    simp only [List.map_cons, List.map_nil]
    rw [e _ hx.1, e _ hx.2.1, e _ hx.2.2.1, e _ hx.2.2.2]

/-- A row of the call's own is written. -/
theorem gb_row {W w w' : World} {v : Value} {B n k : Nat} {e : TypeId} {xs : List Value} (g : W.grownBy w none) (O : w.ownsRow B e k v n xs) (hB : W.heap.size ≤ B) (h : w.grownBy w' v.ownBlock) : W.grownBy w' none := by
  cases e : v.ownBlock with
  | none =>
    rw [e] at h
    exact gb_trans g h
  | some q =>
    rw [e] at h
    have := (O.lt q e).1
    exact gb_own g (by omega) h
theorem gb_under {w w5 w' : World} {r : Option Nat} (g : w.grownBy w5 none) (h : w5.grownBy w' r) : w.grownBy w' r := gb_trans (gb_any g r) h
/-- The text of a row of bytes. -/
theorem row_conv {w : World} {B n : Nat} {v : Value} {l : List UInt8} (O : w.ownsRow B 5 1 v n (Lib.byteCells l)) : (convert 25 9 v).run Tryz.prog w = .ok (.string ⟨l.toArray⟩) w := by
  have hn : l.length = n := by
    have := O.1
    rw [Lib.byteCells_length] at this
    omega
  have hsz : (⟨l.toArray⟩ : ByteArray).size = n := by
    rw [← hn]
    simp [ByteArray.size]
  rcases O.2 with ⟨rfl, h0⟩ | ⟨g, cap, cur, rfl, hB, hg, hle, hmax, hcs, htk⟩
  · have : l = [] := List.eq_nil_of_length_eq_zero (by omega)
    subst this
    exact conv_zero w none 0
  · have hb : Bx (some ⟨g, 0, none⟩) ⟨l.toArray⟩ w := by
      refine .inr ⟨g, 0, rfl, fun i hi => ?_⟩
      rw [Nat.zero_add, blk_cell hg i]
      have hin : i < n := by rw [← hsz]; exact hi
      have e : (Lib.byteCells l)[i]? = some (.int .u8 ((⟨l.toArray⟩ : ByteArray)[i].toNat : Int)) := by
        unfold Lib.byteCells
        rw [List.getElem?_map, List.getElem?_eq_getElem (by omega)]
        rfl
      rw [← htk, List.getElem?_take, if_pos (by omega)] at e
      rw [← e]
      exact (Array.getElem?_toList).symm
    have := conv_bx hb cap
    rw [hsz] at this
    exact this

set_option maxRecDepth 100000 in
set_option maxHeartbeats 4000000 in
theorem rbytes_calls (b cap : Nat) (l : List (Nat × Nat × Nat × Nat)) (W : World) (h : CB b l W) (h255 : L255 l) (hl : l.length ≤ 10000) (hcap : l.length ≤ cap) :
    Calls Tryz.prog 35 #[.slice (some ⟨b, 0, none⟩) l.length cap] W fun e w' => e = .returned (.string ⟨(pbs l).toArray⟩) ∧ W.grownBy w' none := by
  have J0 : (W.alloc (.cells #[] 5)).ownsRow W.heap.size 5 1 (.slice (some ⟨W.heap.size, 0, none⟩) 0 0) 0 [] ∧ W.grownBy (W.alloc (.cells #[] 5)) none :=
    ⟨World.ownsRow_made W #[] 0 (Nat.le_refl _) (by unfold maxLen; omega) (by simp), World.grownBy_alloc _ _ _⟩
  have HJ0 := Lib.hid J0
  have HCB := Lib.hid h
  have hbw := h.lt
  have H255 := Lib.hid h255
  have HL := Lib.hid hl
  obtain ⟨n, hn⟩ : ∃ n, l.length = n := ⟨_, rfl⟩
  have HN := Lib.hid hn
  rw [hn] at hcap ⊢
  obtain ⟨S, hS⟩ : ∃ S : ByteArray, (⟨(pbs l).toArray⟩ : ByteArray) = S := ⟨_, rfl⟩
  have HS := Lib.hid hS
  rw [hS]
  clear J0 h h255 hl hn hS
  go_enter Tryz.func35, Tryz.ntmps35
  go_wp2_with fail
  generalize W.alloc (.cells #[] 5) = w0 at HJ0 ⊢
  go_loopg [3, 4] n (fun q v iv wr => ∃ (i : Nat) (L : Value), i ≤ n ∧ q = n - i ∧ L = v ∧ iv = .int .i64 i ∧ wr.ownsRow W.heap.size 5 1 L (4 * i) (cells (l.take i)) ∧ W.grownBy wr none)
  case atStart => exact ⟨0, _, Nat.zero_le _, rfl, rfl, rfl, HJ0.out⟩
  case round =>
    obtain ⟨i, L, hi, rfl, rfl, rfl, O, G⟩ := hrel
    have gsz := G.size
    have C := HCB.out.kept G (by simp)
    by_cases hin : i < n
    · have d0 : decide ((i : Int) < (n : Int)) = true := decide_eq_true (by omega)
      obtain ⟨x, hx⟩ : ∃ x, l[i]? = some x := ⟨_, List.getElem?_eq_getElem (by rw [HN.out]; exact hin)⟩
      have e0 := C.at i x hx 0 (by decide) _ rfl
      have e1 := C.at i x hx 1 (by decide) _ rfl
      have e2 := C.at i x hx 2 (by decide) _ rfl
      have e3 := C.at i x hx 3 (by decide) _ rfl
      rw [Nat.add_zero] at e0
      have htk : cells (l.take (i + 1)) = cells (l.take i) ++ pc x := by
        have hil : i < l.length := by rw [HN.out]; exact hin
        rw [List.take_add_one, hx]
        show cells (l.take i ++ [x]) = _
        exact cells_snoc _ _
      obtain ⟨va, vn, vc, hv⟩ : ∃ a m c, L = .slice a m c := by
        rcases O.2 with ⟨h, _⟩ | ⟨g, cap, cur, h, _⟩
        · exact ⟨_, _, _, h⟩
        · exact ⟨_, _, _, h⟩
      subst hv
      have i4 : 4 * i < 1000000 := by have := HL.out; have := HN.out; omega
      obtain ⟨⟨x0, x1, x2, x3⟩, hxx⟩ : ∃ t : Nat × Nat × Nat × Nat, x = t := ⟨_, rfl⟩
      subst hxx
      have HO := Lib.hid O
      have HG := Lib.hid G
      have HTK := Lib.hid htk
      clear O G C hx htk HJ0 gsz
      have HOd : (wr.drew).ownsRow W.heap.size 5 1 (.slice va vn vc) (4 * i) (cells (l.take i)) := HO.out.kept (gb_drew wr none) (by cases (Value.slice va vn vc).ownBlock <;> simp)
      have hBd : W.heap.size ≤ (wr.drew).heap.size := HG.out.size
      have HOd := Lib.hid HOd
      go_wp2_with fail
      go_region_law (first
        | (refine by4_step (x0, x1, x2, x3) HOd.out i4 hBd (by rfl) (by rfl) (by rfl) (by rfl) ?_; intro gg cap2 w6 ho6 hg6; have HO6 := Lib.hid ho6; have HG6 := Lib.hid hg6; clear ho6 hg6))
      all_goals
        have G6 := gb_row (HG.out) (HO.out) (Nat.le_refl _) (gb_under (gb_trans (gb_drew wr none) (World.grownBy_alloc _ (b4 (x0, x1, x2, x3)) none)) HG6.out)
        have HG7 := Lib.hid G6
        clear G6
        go_wp2
        go_roundg (n - (i + 1))
        case measure => omega
        case rel => exact ⟨i + 1, _, by omega, rfl, rfl, by go_num, by rw [HTK.out, show 4 * (i + 1) = 4 * i + 4 from by omega]; exact HO6.out, HG7.out⟩
    · obtain rfl : i = n := by omega
      have d0 : decide ((i : Int) < (i : Int)) = false := decide_eq_false (by omega)
      rw [List.take_of_length_le (by rw [HN.out]; exact Nat.le_refl _), byc l H255.out] at O
      have hconv := row_conv O
      rw [HS.out] at hconv
      have HG := Lib.hid G
      clear O G C
      go_wp2
      go_ret
      exact ⟨rfl, HG.out⟩

end Go.Proofs.YtmhghkgcfgacdaaGreat.Qd
