/- Texts of one kind, one behind the other: Ptx2, Ptx3, Ptx4, Raw1, Ptx5, Ptx6. -/
import Derived.Deep.LoopGhost
import Derived.Deep.Onto
import Derived.Deep.RegionLaw
import Derived.Test.YtcfdippcobkbaaaGreatG06
import Derived.Test.YtcfdippcobkbaaaGreatG10
/- Layer 13: the document's Read, walked: what is carried; the kind 1 (written by wip/gen/ptx2.py). -/
namespace Go.Proofs.YtcfdippcobkbaaaGreat.Px
open Go.ChangeShapes Go.WideShapes Go.ChangeAt Go.RowKit
open Go.Proofs.YtcfdippcobkbaaaGreat.Le Go.Proofs.YtcfdippcobkbaaaGreat.Tk Go.Proofs.YtcfdippcobkbaaaGreat.Sc
set_option linter.unusedVariables false

theorem row_color : (Tryz.prog.info? 60).map (fun i => (i.zero, i.size, i.bytes)) = some (some (.agg #[.int .u8 0, .int .u8 0, .int .u8 0, .int .u8 0]), 4, 4) := by kernel_rfl

/-- What is carried through the loop over the pixels: the head, the result, the image so far, whose list L is. -/
structure TI (W : World) (hb rs ob B : Nat) (k w h m a0 fz pz : Int) (L : Value) (i : Nat) (l : List (Nat × Nat × Nat)) (u : World) : Prop where
  fhd : u.heap[hb]? = some (.cells #[.int .i64 k, .int .i64 w, .int .i64 h, .int .i64 m, .int .i64 a0, .int .i64 fz, .int .i64 pz] 24 (0, 0))
  frs : u.heap[rs]? = some (.cells #[.int .i64 0, .int .i64 0, .slice none 0 0, .int .i64 0, .int .i64 0] 28 (0, 0))
  fob : u.heap[ob]? = some (.cells #[.int .i64 w, .int .i64 h, L, .int .i64 0, .int .i64 0] 28 (0, 0))
  own : u.ownsRow B 60 4 L i (cells l)
  g : W.grownBy u none
  hlt : hb < B
  rlt : rs < B
  olt : ob < B
  hr : hb ≠ rs
  ho : hb ≠ ob
  ro : rs ≠ ob
  Wh : W.heap.size ≤ ob
  Wr : W.heap.size ≤ rs
  Bu : B ≤ u.heap.size
section
variable {W : World} {hb rs ob B : Nat} {k w h m a0 fz pz : Int} {L : Value} {i : Nat} {l : List (Nat × Nat × Nat)} {u u' : World}
theorem TI.grown (H : TI W hb rs ob B k w h m a0 fz pz L i l u) (g : u.grownBy u' none) : TI W hb rs ob B k w h m a0 fz pz L i l u' :=
  ⟨(g.block hb (blk_lt H.fhd) (by simp)).trans H.fhd, (g.block rs (blk_lt H.frs) (by simp)).trans H.frs, (g.block ob (blk_lt H.fob) (by simp)).trans H.fob,
    H.own.kept g (by cases L.ownBlock <;> simp), gb_trans H.g g, H.hlt, H.rlt, H.olt, H.hr, H.ho, H.ro, H.Wh, H.Wr, Nat.le_trans H.Bu g.size⟩
/-- The list is another one, in its own row. -/
theorem TI.app {L' : Value} {x : Nat × Nat × Nat} (H : TI W hb rs ob B k w h m a0 fz pz L i l u) (g : u.grownBy u' L.ownBlock) (hL : u'.ownsRow B 60 4 L' (i + 1) (cells l ++ pc x)) :
    TI W hb rs ob B k w h m a0 fz pz L' (i + 1) (l ++ [x]) (u'.setCell ⟨ob, 2, none⟩ L') := by
  have hn : ∀ q, q < B → some q ≠ L.ownBlock := fun q hq e => by
    have := (H.own.lt q e.symm).1
    omega
  have h1 := (g.block hb (blk_lt H.fhd) (hn hb H.hlt)).trans H.fhd
  have h2 := (g.block rs (blk_lt H.frs) (hn rs H.rlt)).trans H.frs
  have h3 := (g.block ob (blk_lt H.fob) (hn ob H.olt)).trans H.fob
  refine ⟨blk_other h1 H.ho, blk_other h2 H.ro, blk_set h3 2 L', ?_, ?_, H.hlt, H.rlt, H.olt, H.hr, H.ho, H.ro, H.Wh, H.Wr, ?_⟩
  · rw [cells_snoc]
    exact ownsRow_setCell_below hL H.olt L'
  · have hW := H.Wh
    have hO := H.olt
    refine gb_own (k := ob) ⟨g.os.trans H.g.os, g.tape.trans H.g.tape, g.output.trans H.g.output, Nat.le_trans H.g.size g.size, fun q hq _ => ?_⟩ hW (gb_set _ _ _ _)
    exact (g.block q (Nat.lt_of_lt_of_le hq H.g.size) (hn q (by omega))).trans (H.g.block q hq (by simp))
  · exact Nat.le_trans H.Bu (Nat.le_trans g.size (gb_set u' ob 2 L').size)
theorem TI.apart (H : TI W hb rs ob B k w h m a0 fz pz L i l u) {q : Nat} (hq : q < B) : some q ≠ L.ownBlock := fun e => by
  have := (H.own.lt q e.symm).1
  omega
theorem TI.oc0 (H : TI W hb rs ob B k w h m a0 fz pz L i l u) : u.cell? ⟨ob, 0, none⟩ = some (.int .i64 w) := blk_cell H.fob 0
theorem TI.oc1 (H : TI W hb rs ob B k w h m a0 fz pz L i l u) : u.cell? ⟨ob, 1, none⟩ = some (.int .i64 h) := blk_cell H.fob 1
theorem TI.oc2 (H : TI W hb rs ob B k w h m a0 fz pz L i l u) : u.cell? ⟨ob, 2, none⟩ = some (L) := blk_cell H.fob 2
theorem TI.oc3 (H : TI W hb rs ob B k w h m a0 fz pz L i l u) : u.cell? ⟨ob, 3, none⟩ = some (.int .i64 0) := blk_cell H.fob 3
theorem TI.oc4 (H : TI W hb rs ob B k w h m a0 fz pz L i l u) : u.cell? ⟨ob, 4, none⟩ = some (.int .i64 0) := blk_cell H.fob 4
theorem TI.rc0 (H : TI W hb rs ob B k w h m a0 fz pz L i l u) : u.cell? ⟨rs, 0, none⟩ = some (.int .i64 0) := blk_cell H.frs 0
theorem TI.rc1 (H : TI W hb rs ob B k w h m a0 fz pz L i l u) : u.cell? ⟨rs, 1, none⟩ = some (.int .i64 0) := blk_cell H.frs 1
theorem TI.rc2 (H : TI W hb rs ob B k w h m a0 fz pz L i l u) : u.cell? ⟨rs, 2, none⟩ = some (.slice none 0 0) := blk_cell H.frs 2
theorem TI.rc3 (H : TI W hb rs ob B k w h m a0 fz pz L i l u) : u.cell? ⟨rs, 3, none⟩ = some (.int .i64 0) := blk_cell H.frs 3
theorem TI.rc4 (H : TI W hb rs ob B k w h m a0 fz pz L i l u) : u.cell? ⟨rs, 4, none⟩ = some (.int .i64 0) := blk_cell H.frs 4
theorem TI.rfree (H : TI W hb rs ob B k w h m a0 fz pz L i l u) (o : Nat) : u.frozen? ⟨rs, o, none⟩ = false := blk_free H.frs o
theorem TI.sl (H : TI W hb rs ob B k w h m a0 fz pz L i l u) : ∃ a n c, L = .slice a n c := by
  rcases H.own.2 with ⟨h, _⟩ | ⟨g, cap, cur, h, _⟩
  · exact ⟨_, _, _, h⟩
  · exact ⟨_, _, _, h⟩
theorem TI.c (H : TI W hb rs ob B k w h m a0 fz pz L i l u) : u.cell? ⟨hb, 0, none⟩ = some (.int .i64 k) ∧ u.cell? ⟨hb, 1, none⟩ = some (.int .i64 w) ∧ u.cell? ⟨hb, 2, none⟩ = some (.int .i64 h) ∧ u.cell? ⟨hb, 3, none⟩ = some (.int .i64 m) :=
  ⟨blk_cell H.fhd 0, blk_cell H.fhd 1, blk_cell H.fhd 2, blk_cell H.fhd 3⟩
end

theorem pc_one (x : Nat × Nat × Nat) : ∀ u ∈ pc x, u.oneCell' = true := by
  intro u hu
  simp [pc] at hu
  rcases hu with rfl | rfl | rfl | rfl <;> rfl
/-- A pixel's block. -/
def pcB (x : Nat × Nat × Nat) : Obj := .cells #[.int .u8 (x.1 : Int), .int .u8 (x.2.1 : Int), .int .u8 (x.2.2 : Int), .int .u8 255] 60
/-- A colour is put behind a list: a step of a region that draws its order. -/
theorem color_step {ops : Array Oper} {o : Oper} {a : Act} {K : Act → World → Prop} {Q : Exit → Act → World → Prop} {E : Prop} {s x : Operand} {B i : Nat} {L : Value} {l : List (Nat × Nat × Nat)} {w5 : World} (c : Nat × Nat × Nat)
    (hown : w5.ownsRow B 60 4 L i (cells l)) (hi : i < 1000000) (hB : B ≤ w5.heap.size)
    (hgd : o.guard = none) (ho : o.op = .call { callee := .builtin .append, args := #[s, x], argTypes := #[26, 26] }) (hs : a.eval s = L) (hx : a.eval x = .slice (some ⟨w5.heap.size, 0, none⟩) 1 1)
    (h : ∀ g cap w', w'.ownsRow B 60 4 (.slice (some ⟨g, 0, none⟩) (i + 1) cap) (i + 1) (cells l ++ pc c) → (w5.alloc (pcB c)).grownBy w' L.ownBlock → K (a.put o.dst (.slice (some ⟨g, 0, none⟩) (i + 1) cap)) w') :
    if Region.wanted o (yielded ops a.tmps) = true then Oper.wp Tryz.prog o a (w5.alloc (pcB c)) K Q else E := by
  obtain ⟨i0, hi0, hz0, hz1, hz2⟩ := info_parts row_color
  refine step_append_lies (w5.alloc (pcB c)) hgd s x 26 ho B 60 i0 _ 4 4 (by kernel_rfl) hi0 hz0 hz1 hz2 rfl (by decide) L i (cells l) hs (hown.alloc _) ⟨w5.heap.size, 0, none⟩ 1 1 (pc c) hx rfl ?_ (pc_one c) (by decide) (by unfold maxLen; omega) (by omega)
    (by rw [size_alloc]; omega) (w5.heap.size + 1) (size_alloc _ _) (fun g cap w' h1 h2 _ _ => h g cap w' h1 h2)
  exact World.news_of_block (cs := #[.int .u8 (c.1 : Int), .int .u8 (c.2.1 : Int), .int .u8 (c.2.2 : Int), .int .u8 255]) (t := 60) (fr := (0, 0)) (heap_alloc_new w5 _)
/-- The same, with all that is carried. -/
theorem color_app {ops : Array Oper} {o : Oper} {a : Act} {K : Act → World → Prop} {Q : Exit → Act → World → Prop} {E : Prop} {s x : Operand} {W w5 : World} {hb rs ob B i : Nat} {k w h m a0 fz pz : Int} {L : Value} {l : List (Nat × Nat × Nat)} (c : Nat × Nat × Nat)
    (T : TI W hb rs ob B k w h m a0 fz pz L i l w5) (hi : i < 1000000)
    (hgd : o.guard = none) (ho : o.op = .call { callee := .builtin .append, args := #[s, x], argTypes := #[26, 26] }) (hs : a.eval s = L) (hx : a.eval x = .slice (some ⟨w5.heap.size, 0, none⟩) 1 1)
    (hh : ∀ g cap w', TI W hb rs ob B k w h m a0 fz pz (.slice (some ⟨g, 0, none⟩) (i + 1) cap) (i + 1) (l ++ [c]) (w'.setCell ⟨ob, 2, none⟩ (.slice (some ⟨g, 0, none⟩) (i + 1) cap)) → w'.cell? ⟨ob, 2, none⟩ = some L → w'.frozen? ⟨ob, 2, none⟩ = false →
      K (a.put o.dst (.slice (some ⟨g, 0, none⟩) (i + 1) cap)) w') :
    if Region.wanted o (yielded ops a.tmps) = true then Oper.wp Tryz.prog o a (w5.alloc (pcB c)) K Q else E := by
  refine color_step c T.own hi T.Bu hgd ho hs hx (fun g cap w' hown hgrow => hh g cap w' ((T.grown (World.grownBy_alloc w5 (pcB c) none)).app hgrow hown) ?_ ?_)
  all_goals
    have o6 := (hgrow.block ob (Nat.lt_of_lt_of_le T.olt (Nat.le_trans T.Bu (World.grownBy_alloc w5 (pcB c) none).size)) (T.apart T.olt)).trans (blk_al T.fob _)
  · exact blk_cell o6 2
  · exact blk_free o6 2

end Go.Proofs.YtcfdippcobkbaaaGreat.Px

/- Layer 13: the document's Read, walked: the kind 1 (written by wip/gen/ptx3.py). -/
namespace Go.Proofs.YtcfdippcobkbaaaGreat.Px
open Go.ChangeShapes Go.WideShapes Go.ChangeAt Go.RowKit
open Go.Proofs.YtcfdippcobkbaaaGreat.Le Go.Proofs.YtcfdippcobkbaaaGreat.Tk Go.Proofs.YtcfdippcobkbaaaGreat.Sc
set_option linter.unusedVariables false

/-- What the document says of a file's pixels, z: a fault, or the list. -/
def DP (W : World) (w h : Nat) (z : PS) (e : Ending) (w' : World) : Prop :=
  W.grownBy w' none ∧ ((z.f ≠ 0 ∧ e = .returned (.agg #[.int .i64 0, .int .i64 0, .slice none 0 0, .int .i64 z.f, .int .i64 z.p])) ∨
    (z.f = 0 ∧ ∃ L, e = .returned (.agg #[.int .i64 w, .int .i64 h, L, .int .i64 0, .int .i64 0]) ∧ w'.ownsRow W.heap.size 60 4 L (w * h) (cells z.l)))

set_option maxRecDepth 100000 in
set_option maxHeartbeats 4000000 in
theorem rtext1_calls (s : ByteArray) (w h m a0 : Nat) (fz pz : Int) (W : World) (hs : s.size ≤ 9223372036854775806) (ha0 : a0 ≤ s.size) (hN : w * h ≤ 1000000) :
    Calls Tryz.prog 10 #[.string s, .agg #[.int .i64 1, .int .i64 w, .int .i64 h, .int .i64 m, .int .i64 a0, .int .i64 fz, .int .i64 pz]] W (DP W w h (pxs s 1 m a0 (w * h))) := by
  obtain ⟨i0, hi, hz0, hz1, hz2⟩ := info_parts row_color
  have HI0 := Lib.hid hi
  have HZ0 := Lib.hid hz0
  have HZ1 := Lib.hid hz1
  have HZ2 := Lib.hid hz2
  clear hi hz0 hz1 hz2
  obtain ⟨N, hNe⟩ : ∃ N, w * h = N := ⟨_, rfl⟩
  have hmul : (w : Int) * (h : Int) = (N : Int) := by rw [← hNe]; exact (Int.natCast_mul _ _).symm
  obtain ⟨Q, hQ⟩ : ∃ Q, DP W w h (pxs s 1 m a0 (w * h)) = Q := ⟨_, rfl⟩
  rw [hQ]
  rw [hNe] at hN
  have HQ := Lib.hid hQ
  have HNe := Lib.hid hNe
  clear hQ hNe
  obtain ⟨hb, hhb⟩ : ∃ x, W.heap.size = x := ⟨_, rfl⟩
  have z1 := size_alloc W (.cells #[.int .i64 1, .int .i64 w, .int .i64 h, .int .i64 m, .int .i64 a0, .int .i64 fz, .int .i64 pz] 24)
  have z2 := size_alloc (W.alloc (.cells #[.int .i64 1, .int .i64 w, .int .i64 h, .int .i64 m, .int .i64 a0, .int .i64 fz, .int .i64 pz] 24)) (.cells #[.int .i64 0, .int .i64 0, .slice none 0 0, .int .i64 0, .int .i64 0] 28)
  have z3 := size_alloc ((W.alloc (.cells #[.int .i64 1, .int .i64 w, .int .i64 h, .int .i64 m, .int .i64 a0, .int .i64 fz, .int .i64 pz] 24)).alloc (.cells #[.int .i64 0, .int .i64 0, .slice none 0 0, .int .i64 0, .int .i64 0] 28)) (.cells #[.int .i64 w, .int .i64 h, .slice none 0 0, .int .i64 0, .int .i64 0] 28)
  have b1 : (W.alloc (.cells #[.int .i64 1, .int .i64 w, .int .i64 h, .int .i64 m, .int .i64 a0, .int .i64 fz, .int .i64 pz] 24)).heap[W.heap.size]? = _ := blk_at
  have b2 : ((W.alloc (.cells #[.int .i64 1, .int .i64 w, .int .i64 h, .int .i64 m, .int .i64 a0, .int .i64 fz, .int .i64 pz] 24)).alloc (.cells #[.int .i64 0, .int .i64 0, .slice none 0 0, .int .i64 0, .int .i64 0] 28)).heap[(W.alloc (.cells #[.int .i64 1, .int .i64 w, .int .i64 h, .int .i64 m, .int .i64 a0, .int .i64 fz, .int .i64 pz] 24)).heap.size]? = _ := blk_at
  have b3 : (((W.alloc (.cells #[.int .i64 1, .int .i64 w, .int .i64 h, .int .i64 m, .int .i64 a0, .int .i64 fz, .int .i64 pz] 24)).alloc (.cells #[.int .i64 0, .int .i64 0, .slice none 0 0, .int .i64 0, .int .i64 0] 28)).alloc (.cells #[.int .i64 w, .int .i64 h, .slice none 0 0, .int .i64 0, .int .i64 0] 28)).heap[((W.alloc (.cells #[.int .i64 1, .int .i64 w, .int .i64 h, .int .i64 m, .int .i64 a0, .int .i64 fz, .int .i64 pz] 24)).alloc (.cells #[.int .i64 0, .int .i64 0, .slice none 0 0, .int .i64 0, .int .i64 0] 28)).heap.size]? = _ := blk_at
  have T0 : TI W hb (hb + 1) (hb + 1 + 1) (hb + 1 + 1 + 1) 1 w h m a0 fz pz (.slice none 0 0) 0 [] (((W.alloc (.cells #[.int .i64 1, .int .i64 w, .int .i64 h, .int .i64 m, .int .i64 a0, .int .i64 fz, .int .i64 pz] 24)).alloc (.cells #[.int .i64 0, .int .i64 0, .slice none 0 0, .int .i64 0, .int .i64 0] 28)).alloc (.cells #[.int .i64 w, .int .i64 h, .slice none 0 0, .int .i64 0, .int .i64 0] 28)) := by
    rw [z1, hhb] at b2 z2
    rw [z2] at b3 z3
    rw [hhb] at b1
    exact ⟨blk_al (blk_al b1 _) _, blk_al b2 _, b3, World.ownsRow_nil _ _ _ _, gb_trans (gb_trans (World.grownBy_alloc _ _ _) (World.grownBy_alloc _ _ _)) (World.grownBy_alloc _ _ _), by omega, by omega, by omega, by omega, by omega, by omega, by omega, by omega, by omega⟩
  have HT0 := Lib.hid T0
  clear z1 z2 z3 b1 b2 b3 T0
  go_enter Tryz.func10, Tryz.ntmps10
  go_wp2_with fail
  have HHB := Lib.hid hhb
  clear hhb
  generalize ((W.alloc (.cells #[.int .i64 1, .int .i64 w, .int .i64 h, .int .i64 m, .int .i64 a0, .int .i64 fz, .int .i64 pz] 24)).alloc (.cells #[.int .i64 0, .int .i64 0, .slice none 0 0, .int .i64 0, .int .i64 0] 28)).alloc (.cells #[.int .i64 w, .int .i64 h, .slice none 0 0, .int .i64 0, .int .i64 0] 28) = w1 at HT0 ⊢
  go_loopg [6, 7] N (fun q av iv wr => ∃ (i : Nat) (L : Value) (z : PS), i ≤ N ∧ q = N - i ∧ iv = .int .i64 i ∧ av = .int .i64 z.a ∧ pxs s 1 m a0 i = z ∧ z.f = 0 ∧ z.a ≤ s.size ∧ TI W hb (hb + 1) (hb + 1 + 1) (hb + 1 + 1 + 1) 1 w h m a0 fz pz L i z.l wr)
  case atStart => exact ⟨0, _, _, Nat.zero_le _, rfl, rfl, rfl, rfl, rfl, ha0, HT0.out⟩
  case round =>
    obtain ⟨i, L, ⟨zf, zp, za, zl, zn⟩, hiN, rfl, rfl, rfl, hz, hzf, hza, T⟩ := hrel
    obtain rfl : zf = 0 := hzf
    have hza : za ≤ s.size := hza
    obtain ⟨La, Ln, Lc, rfl⟩ := T.sl
    have HZ := Lib.hid hz
    have HT := Lib.hid T
    have c0 := T.c.1
    have c1 := T.c.2.1
    have c2 := T.c.2.2.1
    have hlt := blk_lt T.fhd
    clear hz T HT0
    by_cases hlt2 : i < N
    · have d1 : decide ((i : Int) < (N : Int)) = true := decide_eq_true (by omega)
      have KR := fun u => rdigit_calls s za u hs hza
      have hbd := bit_gd s za hza
      rcases digV_gd s za hza with ⟨kd, pl, eg, hk0, hk3, hpl, _⟩ | ⟨v, f, j, eg, hkf, hfj, hjs, hv, _⟩
      · simp only [eg] at KR
        have KR := Lib.hid KR
        have hS : pxs s 1 m a0 (i + 1) = ⟨kd, pl, za, zl, zn + (ovN s za + 1)⟩ := by
          show (pxs s 1 m a0 i).step _ = _
          rw [HZ.out]
          have hp : pxV s 1 m za = ⟨kd, pl, 0, 0, 0, 0, ovN s za + 1⟩ := by
            unfold pxV
            rw [if_pos rfl, bit_fault eg hk0]
          show PS.step _ (pxV s 1 m za) = _
          rw [hp, step_fault rfl hk0]
        have hE := pxs_stay s 1 m a0 (i := i + 1) (by rw [hS]; exact hk0) N (by omega)
        rw [hS] at hE
        have HE := Lib.hid hE
        have d2 : ((kd : Int) == 0) = false := by rw [beq_eq_false_iff_ne]; omega
        have d2' : ((kd : Int) != 0) = true := by rw [bne_iff_ne]; omega
        clear eg hS hE hbd
        go_wp2_with fail
        refine (KR.out _).mono ?_
        rintro e w3 ⟨rfl, g3⟩
        have HT3 := Lib.hid ((HT.out.grown g3).grown (World.grownBy_alloc w3 (.cells #[.int .i64 0, .int .i64 0, .int .i64 0, .int .i64 kd, .int .i64 pl] 55) none))
        clear g3 KR c0 c1 c2 HT
        simp only [gotA]
        go_wp2_with fail
        refine (rimg_bad kd pl _).mono ?_
        rintro e w4 ⟨rfl, g4⟩
        have T4 := HT3.out.grown g4
        have q0 := T4.rc0
        have q1 := T4.rc1
        have q2 := T4.rc2
        have q3 := T4.rc3
        have q4 := T4.rc4
        have f0 := T4.rfree 0
        have f1 := T4.rfree 1
        have f2 := T4.rfree 2
        have f3 := T4.rfree 3
        have f4 := T4.rfree 4
        have HT4 := Lib.hid T4
        clear T4 g4 HT3
        go_wp2
        refine bodyPost_ret (v := .agg #[.int .i64 0, .int .i64 0, .slice none 0 0, .int .i64 kd, .int .i64 pl]) (by simp only [results, Tryz.results10]; go_simp) rfl ?_
        rw [← HQ.out]
        refine ⟨?_, .inl ⟨by rw [HNe.out, HE.out]; exact hk0, by rw [HNe.out, HE.out]⟩⟩
        have hk := HHB.out
        exact gb_own (gb_own (gb_own (gb_own (gb_own HT4.out.g (k := hb + 1) (by omega) (gb_set _ _ _ _)) (k := hb + 1) (by omega) (gb_set _ _ _ _)) (k := hb + 1) (by omega) (gb_set _ _ _ _)) (k := hb + 1) (by omega) (gb_set _ _ _ _)) (k := hb + 1) (by omega) (gb_set _ _ _ _)
      · simp only [eg] at KR
        have KR := Lib.hid KR
        have hv1 : v ≤ 1 := by
          have h1 : digV s za = ⟨v, f, j, 0, 0⟩ := eg
          unfold digV at h1
          split at h1
          · cases h1
          · split at h1
            · rename_i h2
              have := congrArg Got.v h1
              have h3 : bt s (overV s za) - 48 = v := this
              omega
            · cases h1
        obtain ⟨y, hy⟩ : ∃ y, 255 * (1 - v) = y := ⟨_, rfl⟩
        have hy255 : y ≤ 255 := by omega
        have hyi : (255 : Int) * (1 - (v : Int)) = (y : Int) := by omega
        have hS : pxs s 1 m a0 (i + 1) = ⟨0, 0, j, zl ++ [(y, y, y)], zn + (ovN s za + 1)⟩ := by
          show (pxs s 1 m a0 i).step _ = _
          rw [HZ.out]
          have hp : pxV s 1 m za = ⟨0, 0, j, y, y, y, ovN s za + 1⟩ := by
            unfold pxV
            rw [if_pos rfl, bit_yes eg, hy]
          show PS.step _ (pxV s 1 m za) = _
          rw [hp, step_yes rfl rfl]
        have HS := Lib.hid hS
        have hw1 : IntKind.i64.wrap (1 - (v : Int)) = 1 - (v : Int) := by rw [IntKind.wrap_i64]; omega
        have hw2 : IntKind.i64.wrap (255 * (1 - (v : Int))) = (y : Int) := by rw [hyi, IntKind.wrap_i64]; omega
        have hw3 : IntKind.i64.wrap (y : Int) = (y : Int) := by rw [IntKind.wrap_i64]; omega
        have KG := Lib.hid (fun u => rgray_calls (y : Int) u (by omega) (by omega))
        clear eg hS hbd hy
        go_wp2_with fail
        refine (KR.out _).mono ?_
        rintro e w3 ⟨rfl, g3⟩
        have HT3 := Lib.hid ((HT.out.grown g3).grown (World.grownBy_alloc w3 (.cells #[.int .i64 v, .int .i64 f, .int .i64 j, .int .i64 0, .int .i64 0] 55) none))
        have X3 : (w3.alloc (.cells #[.int .i64 v, .int .i64 f, .int .i64 j, .int .i64 0, .int .i64 0] 55)).heap[w3.heap.size]? = some (.cells #[.int .i64 v, .int .i64 f, .int .i64 j, .int .i64 0, .int .i64 0] 55 (0, 0)) := blk_at
        have HX3 := Lib.hid X3
        clear g3 KR c0 c1 c2 HT X3
        simp only [gotA]
        go_wp2_with fail
        generalize w3.alloc (.cells #[.int .i64 v, .int .i64 f, .int .i64 j, .int .i64 0, .int .i64 0] 55) = w4 at HT3 HX3 ⊢
        have o2 : w4.cell? ⟨hb + 1 + 1, 2, none⟩ = some (.slice La Ln Lc) := blk_cell HT3.out.fob 2
        have x0 : w4.cell? ⟨w3.heap.size, 0, none⟩ = some (.int .i64 v) := blk_cell HX3.out 0
        have HI1 := Lib.hid (show i < 1000000 by omega)
        have HAP : hb + 1 + 1 < hb + 1 + 1 + 1 := Nat.lt_succ_self _
        go_region_law (first
          | (refine color_app (y, y, y) HT5.out HI1.out (by rfl) (by rfl) (by rfl) (by rfl) ?_; intro gg cap w6 hT6 o7 f7; have HT6 := Lib.hid hT6; clear hT6)
          | (go_simp; go_at_call 32; refine (KG.out _).mono ?_; rintro e w5 ⟨rfl, g5⟩; have T5 := HT3.out.grown (gb_trans (gb_drew w4 _) g5); have o5 : w5.cell? ⟨hb + 1 + 1, 2, none⟩ = some (.slice La Ln Lc) := blk_cell T5.fob 2; have olt5 := blk_lt T5.fob; have HT5 := Lib.hid T5; clear T5 g5))
        all_goals
          go_wp2
          go_roundg (N - (i + 1))
          case measure => omega
          case rel => exact ⟨i + 1, _, _, by omega, rfl, by go_num, rfl, HS.out, rfl, hjs, HT6.out⟩
    · obtain rfl : i = N := by omega
      have d1 : decide ((i : Int) < (i : Int)) = false := decide_eq_false (by omega)
      have q0 := HT.out.oc0
      have q1 := HT.out.oc1
      have q2 := HT.out.oc2
      have q3 := HT.out.oc3
      have q4 := HT.out.oc4
      have r0 := HT.out.rc0
      have r1 := HT.out.rc1
      have r2 := HT.out.rc2
      have r3 := HT.out.rc3
      have r4 := HT.out.rc4
      have f0 := HT.out.rfree 0
      have f1 := HT.out.rfree 1
      have f2 := HT.out.rfree 2
      have f3 := HT.out.rfree 3
      have f4 := HT.out.rfree 4
      go_wp2
      refine bodyPost_ret (v := .agg #[.int .i64 w, .int .i64 h, .slice La Ln Lc, .int .i64 0, .int .i64 0]) (by simp only [results, Tryz.results10]; go_simp) rfl ?_
      rw [← HQ.out]
      have hk := HHB.out
      refine ⟨?_, .inr ⟨by rw [HNe.out, HZ.out], _, rfl, ?_⟩⟩
      · exact gb_own (gb_own (gb_own (gb_own (gb_own HT.out.g (k := hb + 1) (by omega) (gb_set _ _ _ _)) (k := hb + 1) (by omega) (gb_set _ _ _ _)) (k := hb + 1) (by omega) (gb_set _ _ _ _)) (k := hb + 1) (by omega) (gb_set _ _ _ _)) (k := hb + 1) (by omega) (gb_set _ _ _ _)
      · rw [HNe.out, HZ.out]
        have o5 := ownsRow_setCell_below (ownsRow_setCell_below (ownsRow_setCell_below (ownsRow_setCell_below (ownsRow_setCell_below HT.out.own (a := ⟨hb + 1, 0, none⟩) (by show hb + 1 < _; omega) (.int .i64 w)) (a := ⟨hb + 1, 1, none⟩) (by show hb + 1 < _; omega) (.int .i64 h)) (a := ⟨hb + 1, 2, none⟩) (by show hb + 1 < _; omega) (.slice La Ln Lc)) (a := ⟨hb + 1, 3, none⟩) (by show hb + 1 < _; omega) (.int .i64 0)) (a := ⟨hb + 1, 4, none⟩) (by show hb + 1 < _; omega) (.int .i64 0)
        exact o5.mono (by omega)

end Go.Proofs.YtcfdippcobkbaaaGreat.Px

/- Layer 13: the document's Read, walked: what is carried through the loop over a pixel's samples. -/
namespace Go.Proofs.YtcfdippcobkbaaaGreat.Px
open Go.ChangeShapes Go.WideShapes Go.ChangeAt Go.RowKit
open Go.Proofs.YtcfdippcobkbaaaGreat.Le Go.Proofs.YtcfdippcobkbaaaGreat.Tk Go.Proofs.YtcfdippcobkbaaaGreat.Sc
set_option linter.unusedVariables false

theorem row_int : (Tryz.prog.info? 3).map (fun i => (i.zero, i.size, i.bytes)) = some (some (.int .i64 0), 1, 8) := by kernel_rfl
theorem one_int (x : Int) : ∀ u ∈ [Value.int .i64 x], u.oneCell' = true := by
  intro u hu
  simp at hu
  subst hu
  rfl
def ints (vs : List Nat) : List Value := vs.map fun (x : Nat) => Value.int .i64 (x : Int)
def intB (x : Nat) : Obj := .cells #[.int .i64 (x : Int)] 3

/-- Beside the image so far: a list of samples of its own, v. -/
structure SI (W : World) (hb rs ob B : Nat) (k w h m a0 fz pz : Int) (L : Value) (i : Nat) (l : List (Nat × Nat × Nat)) (B2 : Nat) (v : Value) (vs : List Nat) (u : World) : Prop where
  ti : TI W hb rs ob B k w h m a0 fz pz L i l u
  own : u.ownsRow B2 3 1 v vs.length (ints vs)
  B2u : B2 ≤ u.heap.size
  b2 : B ≤ B2
  far : ∀ q, L.ownBlock = some q → q < B2
section
variable {W : World} {hb rs ob B : Nat} {k w h m a0 fz pz : Int} {L : Value} {i : Nat} {l : List (Nat × Nat × Nat)} {B2 : Nat} {v : Value} {vs : List Nat} {u u' : World}
theorem SI.grown (H : SI W hb rs ob B k w h m a0 fz pz L i l B2 v vs u) (g : u.grownBy u' none) : SI W hb rs ob B k w h m a0 fz pz L i l B2 v vs u' :=
  ⟨H.ti.grown g, H.own.kept g (by cases v.ownBlock <;> simp), Nat.le_trans H.B2u g.size, H.b2, H.far⟩
theorem TI.grownR {r : Option Nat} (H : TI W hb rs ob B k w h m a0 fz pz L i l u) (g : u.grownBy u' r) (hr : ∀ q, r = some q → B2 ≤ q) (hB : B ≤ B2) (hf : ∀ q, L.ownBlock = some q → q < B2) : TI W hb rs ob B k w h m a0 fz pz L i l u' := by
  have hn : ∀ q, q < B → some q ≠ r := fun q hq e => by
    have := hr q e.symm
    omega
  refine ⟨(g.block hb (blk_lt H.fhd) (hn hb H.hlt)).trans H.fhd, (g.block rs (blk_lt H.frs) (hn rs H.rlt)).trans H.frs, (g.block ob (blk_lt H.fob) (hn ob H.olt)).trans H.fob, H.own.kept g ?_, ?_, H.hlt, H.rlt, H.olt, H.hr, H.ho, H.ro, H.Wh, H.Wr, Nat.le_trans H.Bu g.size⟩
  · cases e : L.ownBlock with
    | none => exact .inl rfl
    | some q =>
      refine .inr fun e2 => ?_
      have h1 := hr q e2.symm
      have h2 := hf q e
      omega
  · have hW := H.Wh
    have hO := H.olt
    exact ⟨g.os.trans H.g.os, g.tape.trans H.g.tape, g.output.trans H.g.output, Nat.le_trans H.g.size g.size, fun q hq _ => (g.block q (Nat.lt_of_lt_of_le hq H.g.size) (hn q (by omega))).trans (H.g.block q hq (by simp))⟩
theorem SI.app {v' : Value} {x : Nat} (H : SI W hb rs ob B k w h m a0 fz pz L i l B2 v vs u) (g : u.grownBy u' v.ownBlock) (ho : u'.ownsRow B2 3 1 v' (vs.length + 1) (ints vs ++ [.int .i64 (x : Int)])) : SI W hb rs ob B k w h m a0 fz pz L i l B2 v' (vs ++ [x]) u' := by
  refine ⟨H.ti.grownR g (fun q hq => (H.own.lt q hq).1) H.b2 H.far, ?_, Nat.le_trans H.B2u g.size, H.b2, H.far⟩
  have e1 : (vs ++ [x]).length = vs.length + 1 := by simp
  have e2 : ints (vs ++ [x]) = ints vs ++ [.int .i64 (x : Int)] := by simp [ints]
  rw [e1, e2]
  exact ho
/-- A sample is put behind them: at a plain region's list. -/
theorem int_app {ops : Array Oper} {rest : List Oper} {o : Oper} {a : Act} {Q : Exit → Act → World → Prop} {s x : Operand} (y : Nat) (H : SI W hb rs ob B k w h m a0 fz pz L i l B2 v vs u) (hl : vs.length < 1000000)
    (hgd : o.guard = none) (ho : o.op = .call { callee := .builtin .append, args := #[s, x], argTypes := #[62, 62] }) (hs : a.eval s = v) (hx : a.eval x = .slice (some ⟨u.heap.size, 0, none⟩) 1 1)
    (hh : ∀ g cap w', SI W hb rs ob B k w h m a0 fz pz L i l B2 (.slice (some ⟨g, 0, none⟩) (vs.length + 1) cap) (vs ++ [y]) w' → wpList Tryz.prog ops Q rest (a.put o.dst (.slice (some ⟨g, 0, none⟩) (vs.length + 1) cap)) w') :
    wpList Tryz.prog ops Q (o :: rest) a (u.alloc (intB y)) := by
  obtain ⟨i0, hi0, hz0, hz1, hz2⟩ := info_parts row_int
  refine wpList_append_lies (u.alloc (intB y)) hgd s x 62 ho B2 3 i0 _ 1 8 (by kernel_rfl) hi0 hz0 hz1 hz2 rfl (by decide) v vs.length (ints vs) hs (H.own.alloc _) ⟨u.heap.size, 0, none⟩ 1 1 [.int .i64 (y : Int)] hx rfl ?_ (one_int _) (by decide) (by unfold maxLen; omega) (by omega)
    (by rw [size_alloc]; exact Nat.le_succ_of_le H.B2u) (u.heap.size + 1) (size_alloc _ _) (fun g cap w' h1 h2 _ _ => hh g cap w' ((H.grown (World.grownBy_alloc u (intB y) none)).app h2 h1))
  exact World.news_of_block (cs := #[.int .i64 (y : Int)]) (t := 3) (fr := (0, 0)) (heap_alloc_new u _)
/-- A sample's cell. -/
theorem SI.cell {g n cap j x : Nat} (H : SI W hb rs ob B k w h m a0 fz pz L i l B2 (.slice (some ⟨g, 0, none⟩) n cap) vs u) (hj : vs[j]? = some x) : u.cell? ⟨g, j, none⟩ = some (.int .i64 (x : Int)) := by
  have hc := H.own.cells (g := g) rfl j (.int .i64 (x : Int)) (by unfold ints; rw [List.getElem?_map, hj]; rfl)
  have hadd : (⟨g, 0, none⟩ : Addr).add j = ⟨g, j, none⟩ := by unfold Addr.add; split <;> simp_all
  rwa [hadd] at hc
end

end Go.Proofs.YtcfdippcobkbaaaGreat.Px

/- Layer 14: the pixels of a file as bytes, as plain functions; what the document's pixel carries. -/
namespace Go.Proofs.YtcfdippcobkbaaaGreat.Px
open Go.ChangeShapes Go.WideShapes Go.ChangeAt Go.RowKit
open Go.Proofs.YtcfdippcobkbaaaGreat.Le Go.Proofs.YtcfdippcobkbaaaGreat.Tk Go.Proofs.YtcfdippcobkbaaaGreat.Sc Go.Proofs.YtcfdippcobkbaaaGreat.Sr
set_option linter.unusedVariables false

/-- The bytes of a sample; the samples of a pixel. -/
def sz (m : Nat) : Nat := if 255 < m then 2 else 1
def cnt (k : Nat) : Nat := if k = 6 then 3 else 1
/-- The sample of z bytes at a place. -/
def rawS (s : ByteArray) (m z a : Nat) : SP :=
  if s.size < a + z then ⟨1, s.size, 0, 0, 0⟩
  else if m < numV true (s.extract a (a + z)) then ⟨2, a, 0, 0, 0⟩
  else ⟨0, 0, a + z, nearN (numV true (s.extract a (a + z))) m, 0⟩
def rms (s : ByteArray) (m z b : Nat) : Nat → SS
  | 0 => ⟨0, 0, b, [], 0⟩
  | i + 1 => (rms s m z b i).step (rawS s m z (b + i * z))
theorem rms_stay (s : ByteArray) (m z b : Nat) {i : Nat} (h : (rms s m z b i).f ≠ 0) : ∀ j, i ≤ j → rms s m z b j = rms s m z b i := by
  intro j hj
  induction j with
  | zero =>
    obtain rfl : i = 0 := by omega
    rfl
  | succ j ih =>
    rcases Nat.lt_or_ge i (j + 1) with h1 | h1
    · have h2 := ih (by omega)
      show (rms s m z b j).step _ = _
      rw [h2, ss_stay h]
    · obtain rfl : i = j + 1 := by omega
      rfl
/-- The bit of a pixel, as eight bits. -/
def rawB (s : ByteArray) (a q : Nat) : Nat := 255 * (1 - bt s a / 2 ^ (7 - q) % 2)
/-- A pixel x of a row that begins at fr. -/
def rawX (s : ByteArray) (k m fr x : Nat) : PX :=
  if k = 4 then (if s.size ≤ fr + x / 8 then ⟨1, s.size, 0, 0, 0, 0, 0⟩ else ⟨0, 0, 0, rawB s (fr + x / 8) (x % 8), rawB s (fr + x / 8) (x % 8), rawB s (fr + x / 8) (x % 8), 0⟩)
  else ⟨(rms s m (sz m) (fr + x * cnt k * sz m) (cnt k)).f, (rms s m (sz m) (fr + x * cnt k * sz m) (cnt k)).p, 0,
    (rms s m (sz m) (fr + x * cnt k * sz m) (cnt k)).vs.getD 0 0, (rms s m (sz m) (fr + x * cnt k * sz m) (cnt k)).vs.getD (if k = 6 then 1 else 0) 0, (rms s m (sz m) (fr + x * cnt k * sz m) (cnt k)).vs.getD (if k = 6 then 2 else 0) 0, 0⟩
/-- The pixels so far, of rows of n bytes and w pixels. -/
def rxs (s : ByteArray) (k m a0 n w : Nat) : Nat → PS
  | 0 => ⟨0, 0, 0, [], 0⟩
  | i + 1 => (rxs s k m a0 n w i).step (rawX s k m (a0 + i / w * n) (i % w))
theorem rxs_stay (s : ByteArray) (k m a0 n w : Nat) {i : Nat} (h : (rxs s k m a0 n w i).f ≠ 0) : ∀ j, i ≤ j → rxs s k m a0 n w j = rxs s k m a0 n w i := by
  intro j hj
  induction j with
  | zero =>
    obtain rfl : i = 0 := by omega
    rfl
  | succ j ih =>
    rcases Nat.lt_or_ge i (j + 1) with h1 | h1
    · have h2 := ih (by omega)
      show (rxs s k m a0 n w j).step _ = _
      rw [h2, step_stay h]
    · obtain rfl : i = j + 1 := by omega
      rfl
theorem rxs_at (s : ByteArray) (k m a0 n w : Nat) {x : Nat} (y : Nat) (hx : x < w) : rxs s k m a0 n w (y * w + x + 1) = (rxs s k m a0 n w (y * w + x)).step (rawX s k m (a0 + y * n) x) := by
  have h1 : (y * w + x) / w = y := by
    rw [Nat.mul_comm, Nat.mul_add_div (by omega), Nat.div_eq_of_lt hx, Nat.add_zero]
  have h2 : (y * w + x) % w = x := by
    rw [Nat.mul_comm, Nat.mul_add_mod, Nat.mod_eq_of_lt hx]
  show (rxs s k m a0 n w (y * w + x)).step _ = _
  rw [h1, h2]

/-- What the document says of one pixel. -/
def DX (W : World) (o : PX) : Ending → World → Prop := fun e w' => W.grownBy w' none ∧
  ((o.f ≠ 0 ∧ e = .returned (.tuple #[.agg #[.int .u8 0, .int .u8 0, .int .u8 0, .int .u8 0], .agg #[.int .i64 0, .int .i64 0, .slice none 0 0, .int .i64 (o.f : Int), .int .i64 (o.p : Int)]])) ∨
   (o.f = 0 ∧ o.r ≤ 255 ∧ o.g ≤ 255 ∧ o.b ≤ 255 ∧ e = .returned (.tuple #[.agg #[.int .u8 (o.r : Int), .int .u8 (o.g : Int), .int .u8 (o.b : Int), .int .u8 255], .agg #[.int .i64 0, .int .i64 0, .slice none 0 0, .int .i64 0, .int .i64 0]])))

/-- What a pixel's reading carries: the head, the two results, a list of samples of its own. -/
structure PI (W : World) (hb ra rb : Nat) (k w h m a0 fz pz : Int) (B : Nat) (v : Value) (vs : List Nat) (u : World) : Prop where
  fhd : u.heap[hb]? = some (.cells #[.int .i64 k, .int .i64 w, .int .i64 h, .int .i64 m, .int .i64 a0, .int .i64 fz, .int .i64 pz] 24 (0, 0))
  fra : u.heap[ra]? = some (.cells #[.int .u8 0, .int .u8 0, .int .u8 0, .int .u8 0] 60 (0, 0))
  frb : u.heap[rb]? = some (.cells #[.int .i64 0, .int .i64 0, .slice none 0 0, .int .i64 0, .int .i64 0] 28 (0, 0))
  own : u.ownsRow B 3 1 v vs.length (ints vs)
  g : W.grownBy u none
  hlt : hb < B
  alt : ra < B
  blt : rb < B
  Wa : W.heap.size ≤ ra
  Wb : W.heap.size ≤ rb
  ab : ra ≠ rb
  Bu : B ≤ u.heap.size
section
variable {W : World} {hb ra rb B : Nat} {k w h m a0 fz pz : Int} {v : Value} {vs : List Nat} {u u' : World}
theorem PI.grown (H : PI W hb ra rb k w h m a0 fz pz B v vs u) (g : u.grownBy u' none) : PI W hb ra rb k w h m a0 fz pz B v vs u' :=
  ⟨(g.block hb (blk_lt H.fhd) (by simp)).trans H.fhd, (g.block ra (blk_lt H.fra) (by simp)).trans H.fra, (g.block rb (blk_lt H.frb) (by simp)).trans H.frb,
    H.own.kept g (by cases v.ownBlock <;> simp), gb_trans H.g g, H.hlt, H.alt, H.blt, H.Wa, H.Wb, H.ab, Nat.le_trans H.Bu g.size⟩
theorem PI.app {v' : Value} {x : Nat} (H : PI W hb ra rb k w h m a0 fz pz B v vs u) (g : u.grownBy u' v.ownBlock) (ho : u'.ownsRow B 3 1 v' (vs.length + 1) (ints vs ++ [.int .i64 (x : Int)])) : PI W hb ra rb k w h m a0 fz pz B v' (vs ++ [x]) u' := by
  have hn : ∀ q, q < B → some q ≠ v.ownBlock := fun q hq e => by
    have := (H.own.lt q e.symm).1
    omega
  refine ⟨(g.block hb (blk_lt H.fhd) (hn hb H.hlt)).trans H.fhd, (g.block ra (blk_lt H.fra) (hn ra H.alt)).trans H.fra, (g.block rb (blk_lt H.frb) (hn rb H.blt)).trans H.frb, ?_, ?_, H.hlt, H.alt, H.blt, H.Wa, H.Wb, H.ab, Nat.le_trans H.Bu g.size⟩
  · have e1 : (vs ++ [x]).length = vs.length + 1 := by simp
    have e2 : ints (vs ++ [x]) = ints vs ++ [.int .i64 (x : Int)] := by simp [ints]
    rw [e1, e2]
    exact ho
  · have hW := H.Wa
    have hO := H.alt
    exact ⟨g.os.trans H.g.os, g.tape.trans H.g.tape, g.output.trans H.g.output, Nat.le_trans H.g.size g.size, fun q hq _ => (g.block q (Nat.lt_of_lt_of_le hq H.g.size) (hn q (by omega))).trans (H.g.block q hq (by simp))⟩
/-- A sample is put behind them: at a plain region's list. -/
theorem pint_app {ops : Array Oper} {rest : List Oper} {o : Oper} {a : Act} {Q : Exit → Act → World → Prop} {s x : Operand} (y : Nat) (H : PI W hb ra rb k w h m a0 fz pz B v vs u) (hl : vs.length < 1000000)
    (hgd : o.guard = none) (ho : o.op = .call { callee := .builtin .append, args := #[s, x], argTypes := #[62, 62] }) (hs : a.eval s = v) (hx : a.eval x = .slice (some ⟨u.heap.size, 0, none⟩) 1 1)
    (hh : ∀ g cap w', PI W hb ra rb k w h m a0 fz pz B (.slice (some ⟨g, 0, none⟩) (vs.length + 1) cap) (vs ++ [y]) w' → wpList Tryz.prog ops Q rest (a.put o.dst (.slice (some ⟨g, 0, none⟩) (vs.length + 1) cap)) w') :
    wpList Tryz.prog ops Q (o :: rest) a (u.alloc (intB y)) := by
  obtain ⟨i0, hi0, hz0, hz1, hz2⟩ := info_parts row_int
  refine wpList_append_lies (u.alloc (intB y)) hgd s x 62 ho B 3 i0 _ 1 8 (by kernel_rfl) hi0 hz0 hz1 hz2 rfl (by decide) v vs.length (ints vs) hs (H.own.alloc _) ⟨u.heap.size, 0, none⟩ 1 1 [.int .i64 (y : Int)] hx rfl ?_ (one_int _) (by decide) (by unfold maxLen; omega) (by omega)
    (by rw [size_alloc]; exact Nat.le_succ_of_le H.Bu) (u.heap.size + 1) (size_alloc _ _) (fun g cap w' h1 h2 _ _ => hh g cap w' ((H.grown (World.grownBy_alloc u (intB y) none)).app h2 h1))
  exact World.news_of_block (cs := #[.int .i64 (y : Int)]) (t := 3) (fr := (0, 0)) (heap_alloc_new u _)
theorem PI.cell {g n cap j x : Nat} (H : PI W hb ra rb k w h m a0 fz pz B (.slice (some ⟨g, 0, none⟩) n cap) vs u) (hj : vs[j]? = some x) : u.cell? ⟨g, j, none⟩ = some (.int .i64 (x : Int)) := by
  have hc := H.own.cells (g := g) rfl j (.int .i64 (x : Int)) (by unfold ints; rw [List.getElem?_map, hj]; rfl)
  have hadd : (⟨g, 0, none⟩ : Addr).add j = ⟨g, j, none⟩ := by unfold Addr.add; split <;> simp_all
  rwa [hadd] at hc
theorem PI.c0 (H : PI W hb ra rb k w h m a0 fz pz B v vs u) : u.cell? ⟨hb, 0, none⟩ = some (.int .i64 k) := blk_cell H.fhd 0
theorem PI.c3 (H : PI W hb ra rb k w h m a0 fz pz B v vs u) : u.cell? ⟨hb, 3, none⟩ = some (.int .i64 m) := blk_cell H.fhd 3
theorem PI.aslot (H : PI W hb ra rb k w h m a0 fz pz B v vs u) : u.cell? ⟨ra, 0, none⟩ = some (.int .u8 0) ∧ u.cell? ⟨ra, 1, none⟩ = some (.int .u8 0) ∧ u.cell? ⟨ra, 2, none⟩ = some (.int .u8 0) ∧ u.cell? ⟨ra, 3, none⟩ = some (.int .u8 0) := ⟨blk_cell H.fra 0, blk_cell H.fra 1, blk_cell H.fra 2, blk_cell H.fra 3⟩
theorem PI.bslot (H : PI W hb ra rb k w h m a0 fz pz B v vs u) : u.cell? ⟨rb, 0, none⟩ = some (.int .i64 0) ∧ u.cell? ⟨rb, 1, none⟩ = some (.int .i64 0) ∧ u.cell? ⟨rb, 2, none⟩ = some (.slice none 0 0) ∧ u.cell? ⟨rb, 3, none⟩ = some (.int .i64 0) ∧ u.cell? ⟨rb, 4, none⟩ = some (.int .i64 0) := ⟨blk_cell H.frb 0, blk_cell H.frb 1, blk_cell H.frb 2, blk_cell H.frb 3, blk_cell H.frb 4⟩
theorem PI.afree (H : PI W hb ra rb k w h m a0 fz pz B v vs u) (o : Nat) : u.frozen? ⟨ra, o, none⟩ = false := blk_free H.fra o
theorem PI.bfree (H : PI W hb ra rb k w h m a0 fz pz B v vs u) (o : Nat) : u.frozen? ⟨rb, o, none⟩ = false := blk_free H.frb o
end

end Go.Proofs.YtcfdippcobkbaaaGreat.Px

/- Layer 13: the document's Read, walked: the kind 3 (written by wip/gen/ptx5.py). -/
namespace Go.Proofs.YtcfdippcobkbaaaGreat.Px
open Go.ChangeShapes Go.WideShapes Go.ChangeAt Go.RowKit
open Go.Proofs.YtcfdippcobkbaaaGreat.Le Go.Proofs.YtcfdippcobkbaaaGreat.Tk Go.Proofs.YtcfdippcobkbaaaGreat.Sc
set_option linter.unusedVariables false

set_option maxRecDepth 100000 in
set_option maxHeartbeats 4000000 in
theorem rtext3_calls (s : ByteArray) (w h m a0 : Nat) (fz pz : Int) (W : World) (hs : s.size ≤ 9223372036854775806) (ha0 : a0 ≤ s.size) (hN : w * h ≤ 1000000) (hm : 1 ≤ m ∧ m ≤ 65535) :
    Calls Tryz.prog 10 #[.string s, .agg #[.int .i64 3, .int .i64 w, .int .i64 h, .int .i64 m, .int .i64 a0, .int .i64 fz, .int .i64 pz]] W (DP W w h (pxs s 3 m a0 (w * h))) := by
  obtain ⟨i0, hi, hz0, hz1, hz2⟩ := info_parts row_color
  have HI0 := Lib.hid hi
  have HZ0 := Lib.hid hz0
  have HZ1 := Lib.hid hz1
  have HZ2 := Lib.hid hz2
  clear hi hz0 hz1 hz2
  obtain ⟨N, hNe⟩ : ∃ N, w * h = N := ⟨_, rfl⟩
  have hmul : (w : Int) * (h : Int) = (N : Int) := by rw [← hNe]; exact (Int.natCast_mul _ _).symm
  obtain ⟨Q, hQ⟩ : ∃ Q, DP W w h (pxs s 3 m a0 (w * h)) = Q := ⟨_, rfl⟩
  rw [hQ]
  rw [hNe] at hN
  have HQ := Lib.hid hQ
  have HNe := Lib.hid hNe
  clear hQ hNe
  obtain ⟨hb, hhb⟩ : ∃ x, W.heap.size = x := ⟨_, rfl⟩
  have z1 := size_alloc W (.cells #[.int .i64 3, .int .i64 w, .int .i64 h, .int .i64 m, .int .i64 a0, .int .i64 fz, .int .i64 pz] 24)
  have z2 := size_alloc (W.alloc (.cells #[.int .i64 3, .int .i64 w, .int .i64 h, .int .i64 m, .int .i64 a0, .int .i64 fz, .int .i64 pz] 24)) (.cells #[.int .i64 0, .int .i64 0, .slice none 0 0, .int .i64 0, .int .i64 0] 28)
  have z3 := size_alloc ((W.alloc (.cells #[.int .i64 3, .int .i64 w, .int .i64 h, .int .i64 m, .int .i64 a0, .int .i64 fz, .int .i64 pz] 24)).alloc (.cells #[.int .i64 0, .int .i64 0, .slice none 0 0, .int .i64 0, .int .i64 0] 28)) (.cells #[.int .i64 w, .int .i64 h, .slice none 0 0, .int .i64 0, .int .i64 0] 28)
  have b1 : (W.alloc (.cells #[.int .i64 3, .int .i64 w, .int .i64 h, .int .i64 m, .int .i64 a0, .int .i64 fz, .int .i64 pz] 24)).heap[W.heap.size]? = _ := blk_at
  have b2 : ((W.alloc (.cells #[.int .i64 3, .int .i64 w, .int .i64 h, .int .i64 m, .int .i64 a0, .int .i64 fz, .int .i64 pz] 24)).alloc (.cells #[.int .i64 0, .int .i64 0, .slice none 0 0, .int .i64 0, .int .i64 0] 28)).heap[(W.alloc (.cells #[.int .i64 3, .int .i64 w, .int .i64 h, .int .i64 m, .int .i64 a0, .int .i64 fz, .int .i64 pz] 24)).heap.size]? = _ := blk_at
  have b3 : (((W.alloc (.cells #[.int .i64 3, .int .i64 w, .int .i64 h, .int .i64 m, .int .i64 a0, .int .i64 fz, .int .i64 pz] 24)).alloc (.cells #[.int .i64 0, .int .i64 0, .slice none 0 0, .int .i64 0, .int .i64 0] 28)).alloc (.cells #[.int .i64 w, .int .i64 h, .slice none 0 0, .int .i64 0, .int .i64 0] 28)).heap[((W.alloc (.cells #[.int .i64 3, .int .i64 w, .int .i64 h, .int .i64 m, .int .i64 a0, .int .i64 fz, .int .i64 pz] 24)).alloc (.cells #[.int .i64 0, .int .i64 0, .slice none 0 0, .int .i64 0, .int .i64 0] 28)).heap.size]? = _ := blk_at
  have T0 : TI W hb (hb + 1) (hb + 1 + 1) (hb + 1 + 1 + 1) 3 w h m a0 fz pz (.slice none 0 0) 0 [] (((W.alloc (.cells #[.int .i64 3, .int .i64 w, .int .i64 h, .int .i64 m, .int .i64 a0, .int .i64 fz, .int .i64 pz] 24)).alloc (.cells #[.int .i64 0, .int .i64 0, .slice none 0 0, .int .i64 0, .int .i64 0] 28)).alloc (.cells #[.int .i64 w, .int .i64 h, .slice none 0 0, .int .i64 0, .int .i64 0] 28)) := by
    rw [z1, hhb] at b2 z2
    rw [z2] at b3 z3
    rw [hhb] at b1
    exact ⟨blk_al (blk_al b1 _) _, blk_al b2 _, b3, World.ownsRow_nil _ _ _ _, gb_trans (gb_trans (World.grownBy_alloc _ _ _) (World.grownBy_alloc _ _ _)) (World.grownBy_alloc _ _ _), by omega, by omega, by omega, by omega, by omega, by omega, by omega, by omega, by omega⟩
  have HT0 := Lib.hid T0
  clear z1 z2 z3 b1 b2 b3 T0
  go_enter Tryz.func10, Tryz.ntmps10
  go_wp2_with fail
  have HHB := Lib.hid hhb
  clear hhb
  generalize ((W.alloc (.cells #[.int .i64 3, .int .i64 w, .int .i64 h, .int .i64 m, .int .i64 a0, .int .i64 fz, .int .i64 pz] 24)).alloc (.cells #[.int .i64 0, .int .i64 0, .slice none 0 0, .int .i64 0, .int .i64 0] 28)).alloc (.cells #[.int .i64 w, .int .i64 h, .slice none 0 0, .int .i64 0, .int .i64 0] 28) = w1 at HT0 ⊢
  go_loopg [6, 7] N (fun q av iv wr => ∃ (i : Nat) (L : Value) (z : PS), i ≤ N ∧ q = N - i ∧ iv = .int .i64 i ∧ av = .int .i64 z.a ∧ pxs s 3 m a0 i = z ∧ z.f = 0 ∧ z.a ≤ s.size ∧ TI W hb (hb + 1) (hb + 1 + 1) (hb + 1 + 1 + 1) 3 w h m a0 fz pz L i z.l wr)
  case atStart => exact ⟨0, _, _, Nat.zero_le _, rfl, rfl, rfl, rfl, rfl, ha0, HT0.out⟩
  case round =>
    obtain ⟨i, L, ⟨zf, zp, za, zl, zn⟩, hiN, rfl, rfl, rfl, hz, hzf, hza, T⟩ := hrel
    obtain rfl : zf = 0 := hzf
    have hza : za ≤ s.size := hza
    obtain ⟨La, Ln, Lc, rfl⟩ := T.sl
    have HZ := Lib.hid hz
    have HT := Lib.hid T
    have c0 := T.c.1
    have c1 := T.c.2.1
    have c2 := T.c.2.2.1
    have hlt := blk_lt T.fhd
    clear hz T HT0
    by_cases hlt2 : i < N
    · have d1 : decide ((i : Int) < (N : Int)) = true := decide_eq_true (by omega)
      have S0 : SI W hb (hb + 1) (hb + 1 + 1) (hb + 1 + 1 + 1) 3 w h m a0 fz pz (.slice La Ln Lc) i zl wr.heap.size (.slice (some ⟨wr.heap.size, 0, none⟩) 0 0) [] (wr.alloc (.cells #[] 3)) :=
        ⟨HT.out.grown (World.grownBy_alloc _ _ none), World.ownsRow_made wr #[] 0 (Nat.le_refl _) (by unfold maxLen; omega) (by simp), by rw [size_alloc]; omega, HT.out.Bu, fun q hq => (HT.out.own.lt q hq).2⟩
      have HS0 := Lib.hid S0
      clear S0 HT
      go_wp2_with fail
      obtain ⟨lb, hlb⟩ : ∃ x, wr.heap.size = x := ⟨_, rfl⟩
      rw [hlb] at HS0 ⊢
      have HLB := Lib.hid hlb
      clear hlb c0 c1 c2
      generalize wr.alloc (.cells #[] 3) = w2 at HS0 ⊢
      go_loopg [6, 9, 11] 3 (fun q av lv kv w' => ∃ (kk : Nat) (v : Value) (y : SS), kk ≤ 3 ∧ q = 3 - kk ∧ kv = .int .i64 kk ∧ av = .int .i64 y.a ∧ v = lv ∧ sms s m za kk = y ∧ y.f = 0 ∧ y.a ≤ s.size ∧ y.vs.length = kk ∧ (∀ x, x ∈ y.vs → x ≤ 255) ∧ SI W hb (hb + 1) (hb + 1 + 1) (hb + 1 + 1 + 1) 3 w h m a0 fz pz (.slice La Ln Lc) i zl lb v y.vs w')
      case atStart => exact ⟨0, _, _, Nat.zero_le _, rfl, rfl, rfl, rfl, rfl, rfl, hza, rfl, (fun x hx => by cases hx), HS0.out⟩
      case round =>
        obtain ⟨kk, v, ⟨yf, yp, ya, yvs, yn⟩, hkk, rfl, rfl, rfl, rfl, hy, hyf, hya, hyl, hy255, SI0⟩ := hrel
        obtain rfl : yf = 0 := hyf
        have hya : ya ≤ s.size := hya
        have HY := Lib.hid hy
        have HS1 := Lib.hid SI0
        have HY2 := Lib.hid hy255
        have hyl : yvs.length = kk := hyl
        have c0 := SI0.ti.c.1
        have c3 := SI0.ti.c.2.2.2
        have hlt := blk_lt SI0.ti.fhd
        clear hy SI0 HS0 hy255
        by_cases hkn : kk < 3
        · have KR := fun u => rnumber_calls s ya u hs hya
          rcases gotV_gd s ya hya with ⟨kd, pl, eg, hk0, hk3, hpl, _⟩ | ⟨x, f, j, eg, hkf, hfj, hjs, hx, _⟩
          · simp only [eg] at KR
            have KR := Lib.hid KR
            have hE : pxs s 3 m a0 N = ⟨kd, pl, za, zl, zn + (yn + numN s ya)⟩ := by
              have h1 : sms s m za (kk + 1) = ⟨kd, pl, ya, yvs, yn + numN s ya⟩ := by
                show (sms s m za kk).step _ = _
                rw [HY.out]
                show SS.step _ (smpV s m ya) = _
                rw [smp_fault eg hk0, ss_fault rfl hk0]
              have h2 := sms_stay s m za (i := kk + 1) (by rw [h1]; exact hk0) 3 (by omega)
              have h3 : pxs s 3 m a0 (i + 1) = ⟨kd, pl, za, zl, zn + (yn + numN s ya)⟩ := by
                show (pxs s 3 m a0 i).step _ = _
                rw [HZ.out]
                show PS.step _ (pxV s 3 m za) = _
                have h4 : (pxV s 3 m za).f = kd ∧ (pxV s 3 m za).p = pl ∧ (pxV s 3 m za).n = yn + numN s ya := by
                  have h5 : sms s m za (spp 3) = ⟨kd, pl, ya, yvs, yn + numN s ya⟩ := h2.trans h1
                  unfold pxV
                  rw [if_neg (by decide), h5]
                  exact ⟨rfl, rfl, rfl⟩
                rw [step_fault rfl (by rw [h4.1]; exact hk0), h4.1, h4.2.1, h4.2.2]
              rw [pxs_stay s 3 m a0 (i := i + 1) (by rw [h3]; exact hk0) N (by omega), h3]
            have HE := Lib.hid hE
            have d2 : ((kd : Int) == 0) = false := by rw [beq_eq_false_iff_ne]; omega
            have d2' : ((kd : Int) != 0) = true := by rw [bne_iff_ne]; omega
            clear eg hE
            go_wp2_with fail
            refine (KR.out _).mono ?_
            rintro e w3 ⟨rfl, g3⟩
            have HT3 := Lib.hid ((HS1.out.ti.grown g3).grown (World.grownBy_alloc w3 (.cells #[.int .i64 0, .int .i64 0, .int .i64 0, .int .i64 kd, .int .i64 pl] 55) none))
            clear g3 KR HS1 c0 c3
            simp only [gotA]
            go_wp2_with fail
            refine (rimg_bad kd pl _).mono ?_
            rintro e w4 ⟨rfl, g4⟩
            have T4 := HT3.out.grown g4
            have q0 := T4.rc0
            have q1 := T4.rc1
            have q2 := T4.rc2
            have q3 := T4.rc3
            have q4 := T4.rc4
            have f0 := T4.rfree 0
            have f1 := T4.rfree 1
            have f2 := T4.rfree 2
            have f3 := T4.rfree 3
            have f4 := T4.rfree 4
            have HT4 := Lib.hid T4
            clear T4 g4 HT3
            go_wp2
            refine bodyPost_ret (v := .agg #[.int .i64 0, .int .i64 0, .slice none 0 0, .int .i64 kd, .int .i64 pl]) (by simp only [results, Tryz.results10]; go_simp) rfl ?_
            rw [← HQ.out]
            refine ⟨?_, .inl ⟨by rw [HNe.out, HE.out]; exact hk0, by rw [HNe.out, HE.out]⟩⟩
            have hk := HHB.out
            exact gb_own (gb_own (gb_own (gb_own (gb_own HT4.out.g (k := hb + 1) (by omega) (gb_set _ _ _ _)) (k := hb + 1) (by omega) (gb_set _ _ _ _)) (k := hb + 1) (by omega) (gb_set _ _ _ _)) (k := hb + 1) (by omega) (gb_set _ _ _ _)) (k := hb + 1) (by omega) (gb_set _ _ _ _)
          · simp only [eg] at KR
            have KR := Lib.hid KR
            by_cases hbig : m < x
            · have hE : pxs s 3 m a0 N = ⟨2, f, za, zl, zn + (yn + numN s ya)⟩ := by
                have h1 : sms s m za (kk + 1) = ⟨2, f, ya, yvs, yn + numN s ya⟩ := by
                  show (sms s m za kk).step _ = _
                  rw [HY.out]
                  show SS.step _ (smpV s m ya) = _
                  rw [smp_big eg hbig, ss_fault rfl (show (2 : Nat) ≠ 0 by decide)]
                have h2 := sms_stay s m za (i := kk + 1) (by rw [h1]; exact (show (2 : Nat) ≠ 0 by decide)) 3 (by omega)
                have h3 : pxs s 3 m a0 (i + 1) = ⟨2, f, za, zl, zn + (yn + numN s ya)⟩ := by
                  show (pxs s 3 m a0 i).step _ = _
                  rw [HZ.out]
                  show PS.step _ (pxV s 3 m za) = _
                  have h4 : (pxV s 3 m za).f = 2 ∧ (pxV s 3 m za).p = f ∧ (pxV s 3 m za).n = yn + numN s ya := by
                    have h5 : sms s m za (spp 3) = ⟨2, f, ya, yvs, yn + numN s ya⟩ := h2.trans h1
                    unfold pxV
                    rw [if_neg (by decide), h5]
                    exact ⟨rfl, rfl, rfl⟩
                  rw [step_fault rfl (by rw [h4.1]; decide), h4.1, h4.2.1, h4.2.2]
                rw [pxs_stay s 3 m a0 (i := i + 1) (by rw [h3]; exact (show (2 : Nat) ≠ 0 by decide)) N (by omega), h3]
              have HE := Lib.hid hE
              have d3 : decide ((m : Int) < (x : Int)) = true := decide_eq_true (by omega)
              have hk0 : (2 : Nat) ≠ 0 := by decide
              clear eg hE
              go_wp2_with fail
              refine (KR.out _).mono ?_
              rintro e w3 ⟨rfl, g3⟩
              have T3 := HS1.out.ti.grown g3
              have c3' := T3.c.2.2.2
              have hlt3 := blk_lt T3.fhd
              have HT3 := Lib.hid (T3.grown (World.grownBy_alloc w3 (.cells #[.int .i64 x, .int .i64 f, .int .i64 j, .int .i64 0, .int .i64 0] 55) none))
              clear g3 KR HS1 c0 c3 T3
              simp only [gotA]
              go_wp2_with fail
              refine (rimg_bad 2 f _).mono ?_
              rintro e w4 ⟨rfl, g4⟩
              have T4 := HT3.out.grown g4
              have q0 := T4.rc0
              have q1 := T4.rc1
              have q2 := T4.rc2
              have q3 := T4.rc3
              have q4 := T4.rc4
              have f0 := T4.rfree 0
              have f1 := T4.rfree 1
              have f2 := T4.rfree 2
              have f3 := T4.rfree 3
              have f4 := T4.rfree 4
              have HT4 := Lib.hid T4
              clear T4 g4 HT3
              go_wp2
              refine bodyPost_ret (v := .agg #[.int .i64 0, .int .i64 0, .slice none 0 0, .int .i64 2, .int .i64 f]) (by simp only [results, Tryz.results10]; go_simp) rfl ?_
              rw [← HQ.out]
              refine ⟨?_, .inl ⟨by rw [HNe.out, HE.out]; exact hk0, by rw [HNe.out, HE.out]; rfl⟩⟩
              have hk := HHB.out
              exact gb_own (gb_own (gb_own (gb_own (gb_own HT4.out.g (k := hb + 1) (by omega) (gb_set _ _ _ _)) (k := hb + 1) (by omega) (gb_set _ _ _ _)) (k := hb + 1) (by omega) (gb_set _ _ _ _)) (k := hb + 1) (by omega) (gb_set _ _ _ _)) (k := hb + 1) (by omega) (gb_set _ _ _ _)
            · obtain ⟨y, hyv⟩ : ∃ y, nearN x m = y := ⟨_, rfl⟩
              have hy1 := nearN_is hm.1 (show x ≤ m by omega)
              have hy2 := nearN_le hm.1 (show x ≤ m by omega)
              rw [hyv] at hy1 hy2
              have KM := fun u => rmax_calls (x : Int) (m : Int) u (by omega) (by omega) (by omega) (by omega)
              rw [← hy1] at KM
              have KM := Lib.hid KM
              have h1 : sms s m za (kk + 1) = ⟨0, 0, j, yvs ++ [y], yn + numN s ya⟩ := by
                show (sms s m za kk).step _ = _
                rw [HY.out]
                show SS.step _ (smpV s m ya) = _
                rw [smp_yes eg (show x ≤ m by omega), ss_yes rfl rfl, hyv]
              have HY1 := Lib.hid h1
              have d3 : decide ((m : Int) < (x : Int)) = false := decide_eq_false (by omega)
              have hlen : yvs.length < 1000000 := by omega
              have H255 := Lib.hid (show ∀ q, q ∈ yvs ++ [y] → q ≤ 255 from fun q hq => by
                rcases List.mem_append.1 hq with h | h
                · exact HY2.out q h
                · simp at h
                  omega)
              clear eg h1 hy1 hy2 hyv
              go_wp2_with fail
              refine (KR.out _).mono ?_
              rintro e w3 ⟨rfl, g3⟩
              have S3 := HS1.out.grown g3
              have c3' := S3.ti.c.2.2.2
              have hlt3 := blk_lt S3.ti.fhd
              have S4 := S3.grown (World.grownBy_alloc w3 (.cells #[.int .i64 x, .int .i64 f, .int .i64 j, .int .i64 0, .int .i64 0] 55) none)
              have c4 := S4.ti.c.2.2.2
              have HS4 := Lib.hid S4
              clear g3 KR HS1 c0 c3 S3 S4
              simp only [gotA]
              go_wp2_with fail
              refine (KM.out _).mono ?_
              rintro e w' ⟨rfl, rfl⟩
              go_wp2_with (at_builtin; refine int_app y HS4.out hlen (by rfl) (by rfl) (by rfl) (by first | (rw [size_alloc]; rfl) | rfl) ?_)
              intro gg cap w6 hS6
              have HS6 := Lib.hid hS6
              clear hS6 HS4
              go_wp2_with fail
              go_roundg (3 - (kk + 1))
              case measure => omega
              case rel => exact ⟨kk + 1, _, _, by omega, rfl, by go_num, rfl, rfl, HY1.out, rfl, hjs, by simp [hyl], H255.out, HS6.out⟩
        · obtain rfl : kk = 3 := by omega
          obtain ⟨x, y, z, rfl⟩ : ∃ x y z, yvs = [x, y, z] := by
            match yvs, hyl with
            | [x, y, z], _ => exact ⟨x, y, z, rfl⟩
          have hx := HY2.out x (by simp)
          have hy := HY2.out y (by simp)
          have hz := HY2.out z (by simp)
          have hS : pxs s 3 m a0 (i + 1) = ⟨0, 0, ya, zl ++ [(x, y, z)], zn + yn⟩ := by
            show (pxs s 3 m a0 i).step _ = _
            rw [HZ.out]
            have hp : pxV s 3 m za = ⟨0, yp, ya, x, y, z, yn⟩ := by
              have h5 : sms s m za (spp 3) = ⟨0, yp, ya, [x, y, z], yn⟩ := HY.out
              unfold pxV
              rw [if_neg (by decide), h5]
              rfl
            show PS.step _ (pxV s 3 m za) = _
            rw [hp, step_yes rfl rfl]
          obtain ⟨lg, lc, hvl⟩ : ∃ g c, v = .slice (some ⟨g, 0, none⟩) 3 c := by
            obtain ⟨g, c, h1, _⟩ := HS1.out.own.form (by simp)
            exact ⟨g, c, h1⟩
          subst hvl
          have HS := Lib.hid hS
          have HI1 := Lib.hid (show i < 1000000 by omega)
          have o2 := HS1.out.ti.oc2
          have v0 := HS1.out.cell (j := 0) rfl
          have v1 := HS1.out.cell (j := 1) rfl
          have v2 := HS1.out.cell (j := 2) rfl
          have u0 : IntKind.u8.wrap (x : Int) = (x : Int) := by rw [IntKind.wrap_u8]; omega
          have u1 : IntKind.u8.wrap (y : Int) = (y : Int) := by rw [IntKind.wrap_u8]; omega
          have u2 : IntKind.u8.wrap (z : Int) = (z : Int) := by rw [IntKind.wrap_u8]; omega
          have olt5 := blk_lt HS1.out.ti.fob
          have HT5 := Lib.hid (HS1.out.ti.grown (gb_drew _ _))
          clear hS
          go_wp2_with fail
          go_region_law (refine color_app (x, y, z) HT5.out HI1.out (by rfl) (by rfl) (by rfl) (by rfl) ?_; intro gg cap w6 hT6 o7 f7; have HT6 := Lib.hid hT6; clear hT6)
          all_goals
            go_wp2
            go_roundg (N - (i + 1))
            case measure => omega
            case rel => exact ⟨i + 1, _, _, by omega, rfl, by go_num, rfl, HS.out, rfl, hya, HT6.out⟩
    · obtain rfl : i = N := by omega
      have d1 : decide ((i : Int) < (i : Int)) = false := decide_eq_false (by omega)
      have q0 := HT.out.oc0
      have q1 := HT.out.oc1
      have q2 := HT.out.oc2
      have q3 := HT.out.oc3
      have q4 := HT.out.oc4
      have r0 := HT.out.rc0
      have r1 := HT.out.rc1
      have r2 := HT.out.rc2
      have r3 := HT.out.rc3
      have r4 := HT.out.rc4
      have f0 := HT.out.rfree 0
      have f1 := HT.out.rfree 1
      have f2 := HT.out.rfree 2
      have f3 := HT.out.rfree 3
      have f4 := HT.out.rfree 4
      go_wp2
      refine bodyPost_ret (v := .agg #[.int .i64 w, .int .i64 h, .slice La Ln Lc, .int .i64 0, .int .i64 0]) (by simp only [results, Tryz.results10]; go_simp) rfl ?_
      rw [← HQ.out]
      have hk := HHB.out
      refine ⟨?_, .inr ⟨by rw [HNe.out, HZ.out], _, rfl, ?_⟩⟩
      · exact gb_own (gb_own (gb_own (gb_own (gb_own HT.out.g (k := hb + 1) (by omega) (gb_set _ _ _ _)) (k := hb + 1) (by omega) (gb_set _ _ _ _)) (k := hb + 1) (by omega) (gb_set _ _ _ _)) (k := hb + 1) (by omega) (gb_set _ _ _ _)) (k := hb + 1) (by omega) (gb_set _ _ _ _)
      · rw [HNe.out, HZ.out]
        have o5 := ownsRow_setCell_below (ownsRow_setCell_below (ownsRow_setCell_below (ownsRow_setCell_below (ownsRow_setCell_below HT.out.own (a := ⟨hb + 1, 0, none⟩) (by show hb + 1 < _; omega) (.int .i64 w)) (a := ⟨hb + 1, 1, none⟩) (by show hb + 1 < _; omega) (.int .i64 h)) (a := ⟨hb + 1, 2, none⟩) (by show hb + 1 < _; omega) (.slice La Ln Lc)) (a := ⟨hb + 1, 3, none⟩) (by show hb + 1 < _; omega) (.int .i64 0)) (a := ⟨hb + 1, 4, none⟩) (by show hb + 1 < _; omega) (.int .i64 0)
        exact o5.mono (by omega)

end Go.Proofs.YtcfdippcobkbaaaGreat.Px

/- Layer 13: the document's Read, walked: the kind 2 (written by wip/gen/ptx5.py). -/
namespace Go.Proofs.YtcfdippcobkbaaaGreat.Px
open Go.ChangeShapes Go.WideShapes Go.ChangeAt Go.RowKit
open Go.Proofs.YtcfdippcobkbaaaGreat.Le Go.Proofs.YtcfdippcobkbaaaGreat.Tk Go.Proofs.YtcfdippcobkbaaaGreat.Sc
set_option linter.unusedVariables false

set_option maxRecDepth 100000 in
set_option maxHeartbeats 4000000 in
theorem rtext2_calls (s : ByteArray) (w h m a0 : Nat) (fz pz : Int) (W : World) (hs : s.size ≤ 9223372036854775806) (ha0 : a0 ≤ s.size) (hN : w * h ≤ 1000000) (hm : 1 ≤ m ∧ m ≤ 65535) :
    Calls Tryz.prog 10 #[.string s, .agg #[.int .i64 2, .int .i64 w, .int .i64 h, .int .i64 m, .int .i64 a0, .int .i64 fz, .int .i64 pz]] W (DP W w h (pxs s 2 m a0 (w * h))) := by
  obtain ⟨i0, hi, hz0, hz1, hz2⟩ := info_parts row_color
  have HI0 := Lib.hid hi
  have HZ0 := Lib.hid hz0
  have HZ1 := Lib.hid hz1
  have HZ2 := Lib.hid hz2
  clear hi hz0 hz1 hz2
  obtain ⟨N, hNe⟩ : ∃ N, w * h = N := ⟨_, rfl⟩
  have hmul : (w : Int) * (h : Int) = (N : Int) := by rw [← hNe]; exact (Int.natCast_mul _ _).symm
  obtain ⟨Q, hQ⟩ : ∃ Q, DP W w h (pxs s 2 m a0 (w * h)) = Q := ⟨_, rfl⟩
  rw [hQ]
  rw [hNe] at hN
  have HQ := Lib.hid hQ
  have HNe := Lib.hid hNe
  clear hQ hNe
  obtain ⟨hb, hhb⟩ : ∃ x, W.heap.size = x := ⟨_, rfl⟩
  have z1 := size_alloc W (.cells #[.int .i64 2, .int .i64 w, .int .i64 h, .int .i64 m, .int .i64 a0, .int .i64 fz, .int .i64 pz] 24)
  have z2 := size_alloc (W.alloc (.cells #[.int .i64 2, .int .i64 w, .int .i64 h, .int .i64 m, .int .i64 a0, .int .i64 fz, .int .i64 pz] 24)) (.cells #[.int .i64 0, .int .i64 0, .slice none 0 0, .int .i64 0, .int .i64 0] 28)
  have z3 := size_alloc ((W.alloc (.cells #[.int .i64 2, .int .i64 w, .int .i64 h, .int .i64 m, .int .i64 a0, .int .i64 fz, .int .i64 pz] 24)).alloc (.cells #[.int .i64 0, .int .i64 0, .slice none 0 0, .int .i64 0, .int .i64 0] 28)) (.cells #[.int .i64 w, .int .i64 h, .slice none 0 0, .int .i64 0, .int .i64 0] 28)
  have b1 : (W.alloc (.cells #[.int .i64 2, .int .i64 w, .int .i64 h, .int .i64 m, .int .i64 a0, .int .i64 fz, .int .i64 pz] 24)).heap[W.heap.size]? = _ := blk_at
  have b2 : ((W.alloc (.cells #[.int .i64 2, .int .i64 w, .int .i64 h, .int .i64 m, .int .i64 a0, .int .i64 fz, .int .i64 pz] 24)).alloc (.cells #[.int .i64 0, .int .i64 0, .slice none 0 0, .int .i64 0, .int .i64 0] 28)).heap[(W.alloc (.cells #[.int .i64 2, .int .i64 w, .int .i64 h, .int .i64 m, .int .i64 a0, .int .i64 fz, .int .i64 pz] 24)).heap.size]? = _ := blk_at
  have b3 : (((W.alloc (.cells #[.int .i64 2, .int .i64 w, .int .i64 h, .int .i64 m, .int .i64 a0, .int .i64 fz, .int .i64 pz] 24)).alloc (.cells #[.int .i64 0, .int .i64 0, .slice none 0 0, .int .i64 0, .int .i64 0] 28)).alloc (.cells #[.int .i64 w, .int .i64 h, .slice none 0 0, .int .i64 0, .int .i64 0] 28)).heap[((W.alloc (.cells #[.int .i64 2, .int .i64 w, .int .i64 h, .int .i64 m, .int .i64 a0, .int .i64 fz, .int .i64 pz] 24)).alloc (.cells #[.int .i64 0, .int .i64 0, .slice none 0 0, .int .i64 0, .int .i64 0] 28)).heap.size]? = _ := blk_at
  have T0 : TI W hb (hb + 1) (hb + 1 + 1) (hb + 1 + 1 + 1) 2 w h m a0 fz pz (.slice none 0 0) 0 [] (((W.alloc (.cells #[.int .i64 2, .int .i64 w, .int .i64 h, .int .i64 m, .int .i64 a0, .int .i64 fz, .int .i64 pz] 24)).alloc (.cells #[.int .i64 0, .int .i64 0, .slice none 0 0, .int .i64 0, .int .i64 0] 28)).alloc (.cells #[.int .i64 w, .int .i64 h, .slice none 0 0, .int .i64 0, .int .i64 0] 28)) := by
    rw [z1, hhb] at b2 z2
    rw [z2] at b3 z3
    rw [hhb] at b1
    exact ⟨blk_al (blk_al b1 _) _, blk_al b2 _, b3, World.ownsRow_nil _ _ _ _, gb_trans (gb_trans (World.grownBy_alloc _ _ _) (World.grownBy_alloc _ _ _)) (World.grownBy_alloc _ _ _), by omega, by omega, by omega, by omega, by omega, by omega, by omega, by omega, by omega⟩
  have HT0 := Lib.hid T0
  clear z1 z2 z3 b1 b2 b3 T0
  go_enter Tryz.func10, Tryz.ntmps10
  go_wp2_with fail
  have HHB := Lib.hid hhb
  clear hhb
  generalize ((W.alloc (.cells #[.int .i64 2, .int .i64 w, .int .i64 h, .int .i64 m, .int .i64 a0, .int .i64 fz, .int .i64 pz] 24)).alloc (.cells #[.int .i64 0, .int .i64 0, .slice none 0 0, .int .i64 0, .int .i64 0] 28)).alloc (.cells #[.int .i64 w, .int .i64 h, .slice none 0 0, .int .i64 0, .int .i64 0] 28) = w1 at HT0 ⊢
  go_loopg [6, 7] N (fun q av iv wr => ∃ (i : Nat) (L : Value) (z : PS), i ≤ N ∧ q = N - i ∧ iv = .int .i64 i ∧ av = .int .i64 z.a ∧ pxs s 2 m a0 i = z ∧ z.f = 0 ∧ z.a ≤ s.size ∧ TI W hb (hb + 1) (hb + 1 + 1) (hb + 1 + 1 + 1) 2 w h m a0 fz pz L i z.l wr)
  case atStart => exact ⟨0, _, _, Nat.zero_le _, rfl, rfl, rfl, rfl, rfl, ha0, HT0.out⟩
  case round =>
    obtain ⟨i, L, ⟨zf, zp, za, zl, zn⟩, hiN, rfl, rfl, rfl, hz, hzf, hza, T⟩ := hrel
    obtain rfl : zf = 0 := hzf
    have hza : za ≤ s.size := hza
    obtain ⟨La, Ln, Lc, rfl⟩ := T.sl
    have HZ := Lib.hid hz
    have HT := Lib.hid T
    have c0 := T.c.1
    have c1 := T.c.2.1
    have c2 := T.c.2.2.1
    have hlt := blk_lt T.fhd
    clear hz T HT0
    by_cases hlt2 : i < N
    · have d1 : decide ((i : Int) < (N : Int)) = true := decide_eq_true (by omega)
      have S0 : SI W hb (hb + 1) (hb + 1 + 1) (hb + 1 + 1 + 1) 2 w h m a0 fz pz (.slice La Ln Lc) i zl wr.heap.size (.slice (some ⟨wr.heap.size, 0, none⟩) 0 0) [] (wr.alloc (.cells #[] 3)) :=
        ⟨HT.out.grown (World.grownBy_alloc _ _ none), World.ownsRow_made wr #[] 0 (Nat.le_refl _) (by unfold maxLen; omega) (by simp), by rw [size_alloc]; omega, HT.out.Bu, fun q hq => (HT.out.own.lt q hq).2⟩
      have HS0 := Lib.hid S0
      clear S0 HT
      go_wp2_with fail
      obtain ⟨lb, hlb⟩ : ∃ x, wr.heap.size = x := ⟨_, rfl⟩
      rw [hlb] at HS0 ⊢
      have HLB := Lib.hid hlb
      clear hlb c0 c1 c2
      generalize wr.alloc (.cells #[] 3) = w2 at HS0 ⊢
      go_loopg [6, 9, 11] 1 (fun q av lv kv w' => ∃ (kk : Nat) (v : Value) (y : SS), kk ≤ 1 ∧ q = 1 - kk ∧ kv = .int .i64 kk ∧ av = .int .i64 y.a ∧ v = lv ∧ sms s m za kk = y ∧ y.f = 0 ∧ y.a ≤ s.size ∧ y.vs.length = kk ∧ (∀ x, x ∈ y.vs → x ≤ 255) ∧ SI W hb (hb + 1) (hb + 1 + 1) (hb + 1 + 1 + 1) 2 w h m a0 fz pz (.slice La Ln Lc) i zl lb v y.vs w')
      case atStart => exact ⟨0, _, _, Nat.zero_le _, rfl, rfl, rfl, rfl, rfl, rfl, hza, rfl, (fun x hx => by cases hx), HS0.out⟩
      case round =>
        obtain ⟨kk, v, ⟨yf, yp, ya, yvs, yn⟩, hkk, rfl, rfl, rfl, rfl, hy, hyf, hya, hyl, hy255, SI0⟩ := hrel
        obtain rfl : yf = 0 := hyf
        have hya : ya ≤ s.size := hya
        have HY := Lib.hid hy
        have HS1 := Lib.hid SI0
        have HY2 := Lib.hid hy255
        have hyl : yvs.length = kk := hyl
        have c0 := SI0.ti.c.1
        have c3 := SI0.ti.c.2.2.2
        have hlt := blk_lt SI0.ti.fhd
        clear hy SI0 HS0 hy255
        by_cases hkn : kk < 1
        · have KR := fun u => rnumber_calls s ya u hs hya
          rcases gotV_gd s ya hya with ⟨kd, pl, eg, hk0, hk3, hpl, _⟩ | ⟨x, f, j, eg, hkf, hfj, hjs, hx, _⟩
          · simp only [eg] at KR
            have KR := Lib.hid KR
            have hE : pxs s 2 m a0 N = ⟨kd, pl, za, zl, zn + (yn + numN s ya)⟩ := by
              have h1 : sms s m za (kk + 1) = ⟨kd, pl, ya, yvs, yn + numN s ya⟩ := by
                show (sms s m za kk).step _ = _
                rw [HY.out]
                show SS.step _ (smpV s m ya) = _
                rw [smp_fault eg hk0, ss_fault rfl hk0]
              have h2 := sms_stay s m za (i := kk + 1) (by rw [h1]; exact hk0) 1 (by omega)
              have h3 : pxs s 2 m a0 (i + 1) = ⟨kd, pl, za, zl, zn + (yn + numN s ya)⟩ := by
                show (pxs s 2 m a0 i).step _ = _
                rw [HZ.out]
                show PS.step _ (pxV s 2 m za) = _
                have h4 : (pxV s 2 m za).f = kd ∧ (pxV s 2 m za).p = pl ∧ (pxV s 2 m za).n = yn + numN s ya := by
                  have h5 : sms s m za (spp 2) = ⟨kd, pl, ya, yvs, yn + numN s ya⟩ := h2.trans h1
                  unfold pxV
                  rw [if_neg (by decide), h5]
                  exact ⟨rfl, rfl, rfl⟩
                rw [step_fault rfl (by rw [h4.1]; exact hk0), h4.1, h4.2.1, h4.2.2]
              rw [pxs_stay s 2 m a0 (i := i + 1) (by rw [h3]; exact hk0) N (by omega), h3]
            have HE := Lib.hid hE
            have d2 : ((kd : Int) == 0) = false := by rw [beq_eq_false_iff_ne]; omega
            have d2' : ((kd : Int) != 0) = true := by rw [bne_iff_ne]; omega
            clear eg hE
            go_wp2_with fail
            refine (KR.out _).mono ?_
            rintro e w3 ⟨rfl, g3⟩
            have HT3 := Lib.hid ((HS1.out.ti.grown g3).grown (World.grownBy_alloc w3 (.cells #[.int .i64 0, .int .i64 0, .int .i64 0, .int .i64 kd, .int .i64 pl] 55) none))
            clear g3 KR HS1 c0 c3
            simp only [gotA]
            go_wp2_with fail
            refine (rimg_bad kd pl _).mono ?_
            rintro e w4 ⟨rfl, g4⟩
            have T4 := HT3.out.grown g4
            have q0 := T4.rc0
            have q1 := T4.rc1
            have q2 := T4.rc2
            have q3 := T4.rc3
            have q4 := T4.rc4
            have f0 := T4.rfree 0
            have f1 := T4.rfree 1
            have f2 := T4.rfree 2
            have f3 := T4.rfree 3
            have f4 := T4.rfree 4
            have HT4 := Lib.hid T4
            clear T4 g4 HT3
            go_wp2
            refine bodyPost_ret (v := .agg #[.int .i64 0, .int .i64 0, .slice none 0 0, .int .i64 kd, .int .i64 pl]) (by simp only [results, Tryz.results10]; go_simp) rfl ?_
            rw [← HQ.out]
            refine ⟨?_, .inl ⟨by rw [HNe.out, HE.out]; exact hk0, by rw [HNe.out, HE.out]⟩⟩
            have hk := HHB.out
            exact gb_own (gb_own (gb_own (gb_own (gb_own HT4.out.g (k := hb + 1) (by omega) (gb_set _ _ _ _)) (k := hb + 1) (by omega) (gb_set _ _ _ _)) (k := hb + 1) (by omega) (gb_set _ _ _ _)) (k := hb + 1) (by omega) (gb_set _ _ _ _)) (k := hb + 1) (by omega) (gb_set _ _ _ _)
          · simp only [eg] at KR
            have KR := Lib.hid KR
            by_cases hbig : m < x
            · have hE : pxs s 2 m a0 N = ⟨2, f, za, zl, zn + (yn + numN s ya)⟩ := by
                have h1 : sms s m za (kk + 1) = ⟨2, f, ya, yvs, yn + numN s ya⟩ := by
                  show (sms s m za kk).step _ = _
                  rw [HY.out]
                  show SS.step _ (smpV s m ya) = _
                  rw [smp_big eg hbig, ss_fault rfl (show (2 : Nat) ≠ 0 by decide)]
                have h2 := sms_stay s m za (i := kk + 1) (by rw [h1]; exact (show (2 : Nat) ≠ 0 by decide)) 1 (by omega)
                have h3 : pxs s 2 m a0 (i + 1) = ⟨2, f, za, zl, zn + (yn + numN s ya)⟩ := by
                  show (pxs s 2 m a0 i).step _ = _
                  rw [HZ.out]
                  show PS.step _ (pxV s 2 m za) = _
                  have h4 : (pxV s 2 m za).f = 2 ∧ (pxV s 2 m za).p = f ∧ (pxV s 2 m za).n = yn + numN s ya := by
                    have h5 : sms s m za (spp 2) = ⟨2, f, ya, yvs, yn + numN s ya⟩ := h2.trans h1
                    unfold pxV
                    rw [if_neg (by decide), h5]
                    exact ⟨rfl, rfl, rfl⟩
                  rw [step_fault rfl (by rw [h4.1]; decide), h4.1, h4.2.1, h4.2.2]
                rw [pxs_stay s 2 m a0 (i := i + 1) (by rw [h3]; exact (show (2 : Nat) ≠ 0 by decide)) N (by omega), h3]
              have HE := Lib.hid hE
              have d3 : decide ((m : Int) < (x : Int)) = true := decide_eq_true (by omega)
              have hk0 : (2 : Nat) ≠ 0 := by decide
              clear eg hE
              go_wp2_with fail
              refine (KR.out _).mono ?_
              rintro e w3 ⟨rfl, g3⟩
              have T3 := HS1.out.ti.grown g3
              have c3' := T3.c.2.2.2
              have hlt3 := blk_lt T3.fhd
              have HT3 := Lib.hid (T3.grown (World.grownBy_alloc w3 (.cells #[.int .i64 x, .int .i64 f, .int .i64 j, .int .i64 0, .int .i64 0] 55) none))
              clear g3 KR HS1 c0 c3 T3
              simp only [gotA]
              go_wp2_with fail
              refine (rimg_bad 2 f _).mono ?_
              rintro e w4 ⟨rfl, g4⟩
              have T4 := HT3.out.grown g4
              have q0 := T4.rc0
              have q1 := T4.rc1
              have q2 := T4.rc2
              have q3 := T4.rc3
              have q4 := T4.rc4
              have f0 := T4.rfree 0
              have f1 := T4.rfree 1
              have f2 := T4.rfree 2
              have f3 := T4.rfree 3
              have f4 := T4.rfree 4
              have HT4 := Lib.hid T4
              clear T4 g4 HT3
              go_wp2
              refine bodyPost_ret (v := .agg #[.int .i64 0, .int .i64 0, .slice none 0 0, .int .i64 2, .int .i64 f]) (by simp only [results, Tryz.results10]; go_simp) rfl ?_
              rw [← HQ.out]
              refine ⟨?_, .inl ⟨by rw [HNe.out, HE.out]; exact hk0, by rw [HNe.out, HE.out]; rfl⟩⟩
              have hk := HHB.out
              exact gb_own (gb_own (gb_own (gb_own (gb_own HT4.out.g (k := hb + 1) (by omega) (gb_set _ _ _ _)) (k := hb + 1) (by omega) (gb_set _ _ _ _)) (k := hb + 1) (by omega) (gb_set _ _ _ _)) (k := hb + 1) (by omega) (gb_set _ _ _ _)) (k := hb + 1) (by omega) (gb_set _ _ _ _)
            · obtain ⟨y, hyv⟩ : ∃ y, nearN x m = y := ⟨_, rfl⟩
              have hy1 := nearN_is hm.1 (show x ≤ m by omega)
              have hy2 := nearN_le hm.1 (show x ≤ m by omega)
              rw [hyv] at hy1 hy2
              have KM := fun u => rmax_calls (x : Int) (m : Int) u (by omega) (by omega) (by omega) (by omega)
              rw [← hy1] at KM
              have KM := Lib.hid KM
              have h1 : sms s m za (kk + 1) = ⟨0, 0, j, yvs ++ [y], yn + numN s ya⟩ := by
                show (sms s m za kk).step _ = _
                rw [HY.out]
                show SS.step _ (smpV s m ya) = _
                rw [smp_yes eg (show x ≤ m by omega), ss_yes rfl rfl, hyv]
              have HY1 := Lib.hid h1
              have d3 : decide ((m : Int) < (x : Int)) = false := decide_eq_false (by omega)
              have hlen : yvs.length < 1000000 := by omega
              have H255 := Lib.hid (show ∀ q, q ∈ yvs ++ [y] → q ≤ 255 from fun q hq => by
                rcases List.mem_append.1 hq with h | h
                · exact HY2.out q h
                · simp at h
                  omega)
              clear eg h1 hy1 hy2 hyv
              go_wp2_with fail
              refine (KR.out _).mono ?_
              rintro e w3 ⟨rfl, g3⟩
              have S3 := HS1.out.grown g3
              have c3' := S3.ti.c.2.2.2
              have hlt3 := blk_lt S3.ti.fhd
              have S4 := S3.grown (World.grownBy_alloc w3 (.cells #[.int .i64 x, .int .i64 f, .int .i64 j, .int .i64 0, .int .i64 0] 55) none)
              have c4 := S4.ti.c.2.2.2
              have HS4 := Lib.hid S4
              clear g3 KR HS1 c0 c3 S3 S4
              simp only [gotA]
              go_wp2_with fail
              refine (KM.out _).mono ?_
              rintro e w' ⟨rfl, rfl⟩
              go_wp2_with (at_builtin; refine int_app y HS4.out hlen (by rfl) (by rfl) (by rfl) (by first | (rw [size_alloc]; rfl) | rfl) ?_)
              intro gg cap w6 hS6
              have HS6 := Lib.hid hS6
              clear hS6 HS4
              go_wp2_with fail
              go_roundg (1 - (kk + 1))
              case measure => omega
              case rel => exact ⟨kk + 1, _, _, by omega, rfl, by go_num, rfl, rfl, HY1.out, rfl, hjs, by simp [hyl], H255.out, HS6.out⟩
        · obtain rfl : kk = 1 := by omega
          obtain ⟨x, rfl⟩ : ∃ x, yvs = [x] := by
            match yvs, hyl with
            | [x], _ => exact ⟨x, rfl⟩
          have hx := HY2.out x (by simp)
          have hS : pxs s 2 m a0 (i + 1) = ⟨0, 0, ya, zl ++ [(x, x, x)], zn + yn⟩ := by
            show (pxs s 2 m a0 i).step _ = _
            rw [HZ.out]
            have hp : pxV s 2 m za = ⟨0, yp, ya, x, x, x, yn⟩ := by
              have h5 : sms s m za (spp 2) = ⟨0, yp, ya, [x], yn⟩ := HY.out
              unfold pxV
              rw [if_neg (by decide), h5]
              rfl
            show PS.step _ (pxV s 2 m za) = _
            rw [hp, step_yes rfl rfl]
          obtain ⟨lg, lc, hvl⟩ : ∃ g c, v = .slice (some ⟨g, 0, none⟩) 1 c := by
            obtain ⟨g, c, h1, _⟩ := HS1.out.own.form (by simp)
            exact ⟨g, c, h1⟩
          subst hvl
          have HS := Lib.hid hS
          have HI1 := Lib.hid (show i < 1000000 by omega)
          have o2 := HS1.out.ti.oc2
          have v0 := HS1.out.cell (j := 0) rfl
          have KG := Lib.hid (fun u => rgray_calls (x : Int) u (by omega) (by omega))
          clear hS
          go_wp2_with fail
          go_region_law (first
            | (refine color_app (x, x, x) HT5.out HI1.out (by rfl) (by rfl) (by rfl) (by rfl) ?_; intro gg cap w6 hT6 o7 f7; have HT6 := Lib.hid hT6; clear hT6)
            | (go_simp; go_at_call 32; refine (KG.out _).mono ?_; rintro e w5 ⟨rfl, g5⟩; have T5 := HS1.out.ti.grown (gb_trans (gb_drew _ _) g5); have o5 : w5.cell? ⟨hb + 1 + 1, 2, none⟩ = some (.slice La Ln Lc) := blk_cell T5.fob 2; have olt5 := blk_lt T5.fob; have HT5 := Lib.hid T5; clear T5 g5))
          all_goals
            go_wp2
            go_roundg (N - (i + 1))
            case measure => omega
            case rel => exact ⟨i + 1, _, _, by omega, rfl, by go_num, rfl, HS.out, rfl, hya, HT6.out⟩
    · obtain rfl : i = N := by omega
      have d1 : decide ((i : Int) < (i : Int)) = false := decide_eq_false (by omega)
      have q0 := HT.out.oc0
      have q1 := HT.out.oc1
      have q2 := HT.out.oc2
      have q3 := HT.out.oc3
      have q4 := HT.out.oc4
      have r0 := HT.out.rc0
      have r1 := HT.out.rc1
      have r2 := HT.out.rc2
      have r3 := HT.out.rc3
      have r4 := HT.out.rc4
      have f0 := HT.out.rfree 0
      have f1 := HT.out.rfree 1
      have f2 := HT.out.rfree 2
      have f3 := HT.out.rfree 3
      have f4 := HT.out.rfree 4
      go_wp2
      refine bodyPost_ret (v := .agg #[.int .i64 w, .int .i64 h, .slice La Ln Lc, .int .i64 0, .int .i64 0]) (by simp only [results, Tryz.results10]; go_simp) rfl ?_
      rw [← HQ.out]
      have hk := HHB.out
      refine ⟨?_, .inr ⟨by rw [HNe.out, HZ.out], _, rfl, ?_⟩⟩
      · exact gb_own (gb_own (gb_own (gb_own (gb_own HT.out.g (k := hb + 1) (by omega) (gb_set _ _ _ _)) (k := hb + 1) (by omega) (gb_set _ _ _ _)) (k := hb + 1) (by omega) (gb_set _ _ _ _)) (k := hb + 1) (by omega) (gb_set _ _ _ _)) (k := hb + 1) (by omega) (gb_set _ _ _ _)
      · rw [HNe.out, HZ.out]
        have o5 := ownsRow_setCell_below (ownsRow_setCell_below (ownsRow_setCell_below (ownsRow_setCell_below (ownsRow_setCell_below HT.out.own (a := ⟨hb + 1, 0, none⟩) (by show hb + 1 < _; omega) (.int .i64 w)) (a := ⟨hb + 1, 1, none⟩) (by show hb + 1 < _; omega) (.int .i64 h)) (a := ⟨hb + 1, 2, none⟩) (by show hb + 1 < _; omega) (.slice La Ln Lc)) (a := ⟨hb + 1, 3, none⟩) (by show hb + 1 < _; omega) (.int .i64 0)) (a := ⟨hb + 1, 4, none⟩) (by show hb + 1 < _; omega) (.int .i64 0)
        exact o5.mono (by omega)

end Go.Proofs.YtcfdippcobkbaaaGreat.Px
