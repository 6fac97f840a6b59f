/- Package raster: the columns of two pixels change places; the chapter's example. -/
import Derived.Test.YthgpjdnppknghaaRas3
namespace Go.Proofs.Ythgpjdnppknghaa.Ra
open Go.ChangeShapes Go.WideShapes Go.ChangeAt Go.RowKit
open Go.Proofs.Ythgpjdnppknghaa.Le Go.Proofs.Ythgpjdnppknghaa.Bu Go.Proofs.Ythgpjdnppknghaa.Nu
set_option linter.unusedVariables false

set_option maxRecDepth 100000 in
set_option maxHeartbeats 2000000 in
theorem flip21 (r l c g : Nat) (s : ByteArray) (q : St) (w : World) (h : Ro r l c g 2 1 s w) (hl : Led l q.ls w) (ok : q.Ok) (hq : (q.work 1).2 = true) :
    Calls Try.prog 55 #[.pointer (some ⟨r, 0, none⟩)] w
      fun e w' => e = .returned (.bool true) ∧ (Ro r l c g 2 1 (swp s 0 4) w' ∧ Led l (q.work 1).1.ls w') ∧ Tn w w' [l, g] := by
  have hrl := h.rl
  have hcl := h.buf.bl
  have hgl := h.buf.gl
  have hs8 : s.size = 8 := h.sz
  have c0 : w.cell? ⟨r, 0, none⟩ = some (.pointer (some ⟨l, 0, none⟩)) := blk_cell h.blk 0
  have c1 : w.cell? ⟨r, 1, none⟩ = some (.int .i64 2) := blk_cell h.blk 1
  have c2 : w.cell? ⟨r, 2, none⟩ = some (.int .i64 1) := blk_cell h.blk 2
  have O := Lib.hid (fun w h => open_calls r l c g 2 1 s w h (by omega))
  have W := fun w h => work_calls l q 1 w h ok
  simp only [hq] at W
  obtain ⟨y1, hy1⟩ : ∃ y, (q.work 1).1 = y := ⟨_, rfl⟩
  simp only [hy1] at W ⊢
  have W' := Lib.hid W
  have F0 := Lib.hid (show ∀ w, Ro r l c g 2 1 s w → Calls Try.prog 74 #[.pointer (some ⟨r, 0, none⟩), .int .i64 0, .int .i64 0] w fun e w' => e = .returned (.tuple #[.int .i64 0, .bool true]) ∧ w.grownBy w' none from
    fun w h => find_yes r l c g 2 1 0 0 0 s w h (by decide) (by decide) (by decide) (by decide) (by decide))
  have F1 := Lib.hid (show ∀ w, Ro r l c g 2 1 s w → Calls Try.prog 74 #[.pointer (some ⟨r, 0, none⟩), .int .i64 1, .int .i64 0] w fun e w' => e = .returned (.tuple #[.int .i64 4, .bool true]) ∧ w.grownBy w' none from
    fun w h => find_yes r l c g 2 1 1 0 1 s w h (by decide) (by decide) (by decide) (by decide) (by decide))
  have SW := Lib.hid (show ∀ w, Ro r l c g 2 1 s w → Calls Try.prog 78 #[.pointer (some ⟨r, 0, none⟩), .int .i64 0, .int .i64 4] w fun e w' => e = .returned (.tuple #[]) ∧ Ro r l c g 2 1 (swp s 0 4) w' ∧ w.grownBy w' (some g) from
    fun w h => swap_calls r l c g 2 1 0 4 s w h (by omega) (by omega))
  obtain ⟨t, ht⟩ : ∃ t, swp s 0 4 = t := ⟨_, rfl⟩
  rw [ht] at SW ⊢
  have H := Lib.hid h
  have L := Lib.hid hl
  clear W h hl hq hy1 ht ok
  go_enter Try.func55, Try.ntmps55
  go_wp2_with fail
  go_region_held3 (fun w' => w'.cell? ⟨r, 0, none⟩ = some (.pointer (some ⟨l, 0, none⟩)) ∧ w'.cell? ⟨r, 2, none⟩ = some (.int .i64 1)) (go_keep)
    (first | (go_at_call 77; refine (O.out _ (H.out.grown (gb_drew _ none) (by simp) (by simp) (by simp))).mono ?_; rintro e w' ⟨rfl, rfl⟩) | (go_at_call 75; refine (W'.out _ (L.out.grown (gb_drew _ none) (by simp))).mono ?_; rintro e w2 ⟨rfl, L2, g2⟩; have HL2 := Lib.hid L2; have H2 := Lib.hid ((H.out.grown (gb_drew _ none) (by simp) (by simp) (by simp)).grown g2 (by simpa using hrl) (by simpa using hcl) (by simpa using hgl)); have d0 : w2.cell? ⟨r, 0, none⟩ = some (.pointer (some ⟨l, 0, none⟩)) := blk_cell H2.out.blk 0; have d1 : w2.cell? ⟨r, 1, none⟩ = some (.int .i64 2) := blk_cell H2.out.blk 1; have d2 : w2.cell? ⟨r, 2, none⟩ = some (.int .i64 1) := blk_cell H2.out.blk 2; have T2 := Lib.hid ((Tn.drew w [l, g]).trans (Tn.gb g2 (by simp))); clear L2 g2))
  go_wp2_with fail
  clear c0 c1 c2 d0 d1 d2
  go_loopg [36] 1 (fun u kv wr => (u = 1 ∧ kv = .int .i64 0 ∧ (Ro r l c g 2 1 s wr ∧ Led l y1.ls wr ∧ Tn w wr [l, g])) ∨ (u = 0 ∧ kv = .int .i64 1 ∧ (Ro r l c g 2 1 t wr ∧ Led l y1.ls wr ∧ Tn w wr [l, g])))
  case atStart => exact .inl ⟨rfl, rfl, H2.out, HL2.out, T2.out⟩
  case round =>
    rcases hrel with ⟨rfl, rfl, I⟩ | ⟨rfl, rfl, I⟩
    · have HI := Lib.hid I
      clear I H2 HL2 T2
      go_wp2_with fail
      refine (F0.out _ HI.out.1).mono ?_
      rintro e w3 ⟨rfl, g3⟩
      have I3 := Lib.hid (HI.out.1.grown g3 (by simp) (by simp) (by simp))
      have d1 : w3.cell? ⟨r, 1, none⟩ = some (.int .i64 2) := blk_cell I3.out.blk 1
      have J3 := Lib.hid (show Ro r l c g 2 1 s w3 ∧ Led l y1.ls w3 ∧ Tn w w3 [l, g] from ⟨I3.out, HI.out.2.1.grown g3 (by simp), HI.out.2.2.trans (Tn.gb g3 (by simp))⟩)
      clear g3 HI
      go_wp2_with fail
      refine (F1.out _ I3.out).mono ?_
      rintro e w4 ⟨rfl, g4⟩
      have J4 := Lib.hid (show Ro r l c g 2 1 s w4 ∧ Led l y1.ls w4 ∧ Tn w w4 [l, g] from ⟨I3.out.grown g4 (by simp) (by simp) (by simp), J3.out.2.1.grown g4 (by simp), J3.out.2.2.trans (Tn.gb g4 (by simp))⟩)
      clear g4 J3 I3 d1
      go_wp2_with fail
      go_loopg [57] 1 (fun u kv wr => (u = 1 ∧ kv = .int .i64 0 ∧ (Ro r l c g 2 1 s wr ∧ Led l y1.ls wr ∧ Tn w wr [l, g])) ∨ (u = 0 ∧ kv = .int .i64 1 ∧ (Ro r l c g 2 1 t wr ∧ Led l y1.ls wr ∧ Tn w wr [l, g])))
      case atStart => exact .inl ⟨rfl, rfl, J4.out⟩
      case round =>
        rcases hrel with ⟨rfl, rfl, I⟩ | ⟨rfl, rfl, I⟩
        · have HI := Lib.hid I
          clear I J4
          go_wp2_with fail
          refine (SW.out _ HI.out.1).mono ?_
          rintro e w5 ⟨rfl, R5, g5⟩
          have J5 := Lib.hid (show Ro r l c g 2 1 t w5 ∧ Led l y1.ls w5 ∧ Tn w w5 [l, g] from ⟨R5, HI.out.2.1.grown g5 (by simpa using Ne.symm hgl), HI.out.2.2.trans (Tn.gb g5 (by simp))⟩)
          clear R5 g5 HI
          go_wp2_with fail
          go_roundg 0
          case measure => omega
          case rel => exact .inr ⟨rfl, by first | rfl | go_num, J5.out⟩
        · have HI := Lib.hid I
          clear I J4
          go_wp2_with fail
          go_roundg 0
          case measure => omega
          case rel => exact .inr ⟨rfl, by first | rfl | go_num, HI.out⟩
    · have HI := Lib.hid I
      clear I H2 HL2 T2
      go_wp2
      go_ret
      exact ⟨rfl, ⟨HI.out.1, HI.out.2.1⟩, HI.out.2.2⟩

def q0 : St := { w := 2, h := 1, b := 8, s := 9, by_ := 0, pk := 0, st := 0, r := 0, a := 0 }
theorem q0_new : St.new 2 1 8 9 = q0 := rfl
theorem q0_ok : q0.Ok := ⟨by decide, by decide, by decide, by decide, by decide, by decide, by decide, by decide, by decide, by decide, by decide, by decide, by decide⟩
def q1 : St := { q0 with by_ := 8, pk := 8 }
theorem q1_ok : q1.Ok := ⟨by decide, by decide, by decide, by decide, by decide, by decide, by decide, by decide, by decide, by decide, by decide, by decide, by decide⟩
def q2 : St := { q1 with st := 1 }
theorem q2_ok : q2.Ok := ⟨by decide, by decide, by decide, by decide, by decide, by decide, by decide, by decide, by decide, by decide, by decide, by decide, by decide⟩

/-- The example's bytes, behind the pixel and the flip. -/
def s1 : ByteArray := putS (rep 0 8) (four 255 0 0 255) 0
theorem s1_flip : bt (swp s1 0 4) 4 = 255 ∧ bt (swp s1 0 4) 5 = 0 ∧ bt (swp s1 0 4) 6 = 0 ∧ bt (swp s1 0 4) 7 = 255 := by decide +kernel

set_option maxRecDepth 100000 in
set_option maxHeartbeats 2000000 in
theorem awake_calls (w : World) : Calls Try.prog 25 #[] w fun e w' => e = .returned (.bool true) ∧ w.grownBy w' none := by
  have N := Lib.hid (fun w => new_calls 2 1 8 9 w)
  have M := Lib.hid (show ∀ l w, Led l q0.ls w → Calls Try.prog 23 #[.pointer (some ⟨l, 0, none⟩), .int .i64 2, .int .i64 1] w
      fun e w' => ∃ r c g, e = .returned (.tuple #[.pointer (some ⟨r, 0, none⟩), .int .i64 0]) ∧ Ro r l c g 2 1 (rep 0 8) w' ∧ Led l q1.ls w' ∧ w.grownBy w' (some l) ∧ w.heap.size ≤ r ∧ w.heap.size ≤ c ∧ w.heap.size ≤ g from
    fun l w h => new_yes l q0 2 1 w h q0_ok (by decide) (by decide) (by decide) (by decide) rfl rfl)
  have S := Lib.hid (show ∀ r l c g w, Ro r l c g 2 1 (rep 0 8) w → Led l q1.ls w → Calls Try.prog 54 #[.pointer (some ⟨r, 0, none⟩), .int .i64 0, .int .i64 0, .agg #[.int .u8 255, .int .u8 0, .int .u8 0, .int .u8 255]] w
      fun e w' => e = .returned (.bool true) ∧ (Ro r l c g 2 1 s1 w' ∧ Led l q2.ls w') ∧ Tn w w' [l, g] from
    fun r l c g w h hl => set_px r l c g 2 1 0 0 0 (rep 0 8) q1 255 0 0 255 w h hl q1_ok rfl (by decide) (by decide) (by decide) (by decide) (by decide))
  have F := Lib.hid (fun r l c g w h hl => flip21 r l c g s1 q2 w h hl q2_ok rfl)
  have G := Lib.hid (show ∀ r l c g w, Ro r l c g 2 1 (swp s1 0 4) w → Calls Try.prog 56 #[.pointer (some ⟨r, 0, none⟩), .int .i64 1, .int .i64 0] w
      fun e w' => e = .returned (.tuple #[.agg #[.int .u8 255, .int .u8 0, .int .u8 0, .int .u8 255], .bool true]) ∧ w.grownBy w' none from
    fun r l c g w h => by
      have K := get_px r l c g 2 1 1 0 1 (swp s1 0 4) w h (by decide) (by decide) (by decide) (by decide) (by decide)
      obtain ⟨a0, a1, a2, a3⟩ := s1_flip
      rw [show 4 * 1 = 4 from rfl, a0, a1, a2, a3] at K
      exact K)
  go_enter Try.func25, Try.ntmps25
  go_wp2_with fail
  refine (N.out _).mono ?_
  rintro e w1 ⟨l, rfl, L1, g1, hl⟩
  have H1 := Lib.hid L1
  have G1 := Lib.hid g1
  have z1 := g1.size
  clear L1 g1
  go_wp2_with fail
  refine (M.out l _ H1.out).mono ?_
  rintro e w2 ⟨r, c, g, rfl, R2, L2, g2, hr, hc, hg⟩
  have HR2 := Lib.hid R2
  have HL2 := Lib.hid L2
  have z2 := g2.size
  have lr := R2.lt
  have lg := R2.buf.glt
  have G2 := Lib.hid (gb_new G1.out hl g2)
  clear R2 L2 g2
  go_wp2_with fail
  have B2 := Lib.hid (show (w2.alloc (.cells #[.int .u8 255, .int .u8 0, .int .u8 0, .int .u8 255] 50)).heap[w2.heap.size]? = some (.cells #[.int .u8 255, .int .u8 0, .int .u8 0, .int .u8 255] 50 (0, 0)) from blk_at)
  have A2 := Lib.hid (World.grownBy_alloc w2 (.cells #[.int .u8 255, .int .u8 0, .int .u8 0, .int .u8 255] 50) none)
  refine (S.out r l c g _ (HR2.out.grown A2.out (by simp) (by simp) (by simp)) (HL2.out.grown A2.out (by simp))).mono ?_
  rintro e w3 ⟨rfl, ⟨R3, L3⟩, t3⟩
  have ll := HL2.out.lt
  have B3 := Lib.hid ((t3.block _ (blk_lt B2.out) (by simp; omega)).trans B2.out)
  have HR3 := Lib.hid R3
  have HL3 := Lib.hid L3
  have T3 := Lib.hid ((Tn.gb A2.out (by simp) : Tn w2 _ [l, g]).trans t3)
  clear R3 L3 t3
  go_wp2_with fail
  refine (F.out r l c g _ HR3.out HL3.out).mono ?_
  rintro e w4 ⟨rfl, ⟨R4, L4⟩, t4⟩
  have B4 := Lib.hid ((t4.block _ (blk_lt B3.out) (by simp; omega)).trans B3.out)
  have HR4 := Lib.hid R4
  have T4 := Lib.hid (T3.out.trans t4)
  clear R4 L4 t4
  go_wp2_with fail
  refine (G.out r l c g _ HR4.out).mono ?_
  rintro e w5 ⟨rfl, g5⟩
  have B5 := (g5.block _ (blk_lt B4.out) (by simp)).trans B4.out
  have hlt5 := blk_lt B5
  have d0 := blk_cell B5 0
  have d1 := blk_cell B5 1
  have d2 := blk_cell B5 2
  have d3 := blk_cell B5 3
  simp only [List.getElem?_toArray, List.getElem?_cons_succ, List.getElem?_cons_zero] at d0 d1 d2 d3
  have T5 := Lib.hid (T4.out.trans (Tn.gb g5 (by simp)))
  clear g5 B5
  go_wp2
  go_ret
  exact ⟨rfl, gb_trans (Tn.own G2.out T5.out (by simp; omega)) (World.grownBy_alloc _ _ _)⟩

end Go.Proofs.Ythgpjdnppknghaa.Ra
