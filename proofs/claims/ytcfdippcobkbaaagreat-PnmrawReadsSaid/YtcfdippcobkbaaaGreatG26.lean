/- Texts of one kind, one behind the other: Pla2, LwA, LwB. -/
import Derived.Deep.RegionLaw
import Derived.Lib.ConvBytes
import Derived.Test.YtcfdippcobkbaaaGreatG20
import Derived.Test.YtcfdippcobkbaaaGreatG23
import Derived.Test.YtcfdippcobkbaaaGreatG24
import Derived.Test.YtcfdippcobkbaaaGreatG25
/- The document's Plain, walked. -/
namespace Go.Proofs.YtcfdippcobkbaaaGreat.Px
open Go.ChangeShapes Go.WideShapes Go.ChangeAt Go.RowKit
open Go.Proofs.YtcfdippcobkbaaaGreat.Le Go.Proofs.YtcfdippcobkbaaaGreat.Tk Go.Proofs.YtcfdippcobkbaaaGreat.Sc Go.Proofs.YtcfdippcobkbaaaGreat.Sr Go.Proofs.YtcfdippcobkbaaaGreat.Ph Go.Proofs.YtcfdippcobkbaaaGreat.Ra
set_option linter.unusedVariables false

/-- A string is made bytes: a step of a region that draws its order. -/
theorem conv_step {ops : Array Oper} {o : Oper} {a : Act} {K : Act → World → Prop} {Q : Exit → Act → World → Prop} {E : Prop} {x : Operand} {S : ByteArray} {n : Nat} {w5 : World} (hn : S.size = n)
    (hgd : o.guard = none) (ho : o.op = .convert 9 30 x) (hx : a.eval x = .string S)
    (h : K (a.put o.dst (.slice (some ⟨w5.heap.size, 0, none⟩) n (grownCap w5 n 0 5))) (Lib.bytesWorld w5 5 S)) :
    if Region.wanted o (yielded ops a.tmps) = true then Oper.wp Tryz.prog o a w5 K Q else E := by
  have hw : Region.wanted o (yielded ops a.tmps) = true := by simp [Region.wanted, hgd]
  rw [if_pos hw]
  have hr := Lib.run_convert_string_bytes (P := Tryz.prog) w5 9 30 5 S (u := .string) (by kernel_rfl) (by kernel_rfl) (by kernel_rfl)
  rw [hn] at hr
  unfold Oper.wp execOp
  simp only [ho, Sem.run_bind, Sem.run_pure, Result.andThen_ok, hx, hr]
  exact h

theorem gb_bytes (w : World) (e : TypeId) (s : ByteArray) (row : Option Nat) : w.grownBy (Lib.bytesWorld w e s) row :=
  ⟨rfl, rfl, rfl, by rw [Lib.bytesWorld_size]; omega, fun k hk _ => Lib.bytesWorld_at_old w e s k hk⟩
theorem bx_bytes (w : World) (s : ByteArray) : Bx (some ⟨w.heap.size, 0, none⟩) s (Lib.bytesWorld w 5 s) := .inr ⟨w.heap.size, 0, rfl, fun i hi => by
  rw [Nat.zero_add, Lib.bytesWorld_cell w _ s i hi]
  have h2 : i < s.data.toList.length := by rw [← Lib.size_eq]; exact hi
  rw [List.getD_eq_getElem?_getD, List.getElem?_eq_getElem h2]
  rfl⟩

set_option maxRecDepth 100000 in
set_option maxHeartbeats 4000000 in
/-- A list of pixels as an image. -/
theorem rplain_calls (b cap w h : Nat) (fz pz : Int) (l : List (Nat × Nat × Nat)) (W : World) (hc : CB b l W) (h255 : L255 l) (hl : l.length ≤ 10000) (h1 : 1 ≤ l.length) (hcap : l.length ≤ cap) :
    Calls Tryz.prog 13 #[.agg #[.int .i64 w, .int .i64 h, .slice (some ⟨b, 0, none⟩) l.length cap, .int .i64 fz, .int .i64 pz]] W fun e w' =>
      ∃ g c, e = .returned (.agg #[.int .i64 w, .int .i64 h, .slice (some ⟨g, 0, none⟩) (4 * l.length) c]) ∧ Bx (some ⟨g, 0, none⟩) ⟨(pbs l).toArray⟩ w' ∧ W.grownBy w' none := by
  obtain ⟨S, hS⟩ : ∃ S : ByteArray, (⟨(pbs l).toArray⟩ : ByteArray) = S := ⟨_, rfl⟩
  have hsz : S.size = 4 * l.length := by
    rw [← hS, Lib.size_eq]
    exact pbs_len l
  have KB := fun u (g : W.grownBy u none) => rbytes_calls b cap l u (hc.kept g (by simp)) h255 hl hcap
  rw [hS] at KB ⊢
  obtain ⟨n, hn⟩ : ∃ n, l.length = n := ⟨_, rfl⟩
  rw [hn] at KB hsz h1 hl ⊢
  have KB := Lib.hid KB
  have hcv : ∀ u, (convert 9 30 (.string S)).run Tryz.prog u = .ok (.slice (some ⟨u.heap.size, 0, none⟩) (4 * n) (grownCap u (4 * n) 0 5)) (Lib.bytesWorld u 5 S) := fun u => by
    have := Lib.run_convert_string_bytes (P := Tryz.prog) u 9 30 5 S (u := .string) (by kernel_rfl) (by kernel_rfl) (by kernel_rfl)
    rw [hsz] at this
    exact this
  have HCV := Lib.hid hcv
  have B0 : ((W.alloc (.cells #[.int .i64 w, .int .i64 h, .slice (some ⟨b, 0, none⟩) n cap, .int .i64 fz, .int .i64 pz] 28)).alloc (.cells #[.int .i64 0, .int .i64 0, .slice none 0 0] 32)).heap[W.heap.size]? = some (.cells #[.int .i64 w, .int .i64 h, .slice (some ⟨b, 0, none⟩) n cap, .int .i64 fz, .int .i64 pz] 28 (0, 0)) := blk_al blk_at _
  have I0 : ((W.alloc (.cells #[.int .i64 w, .int .i64 h, .slice (some ⟨b, 0, none⟩) n cap, .int .i64 fz, .int .i64 pz] 28)).alloc (.cells #[.int .i64 0, .int .i64 0, .slice none 0 0] 32)).heap[W.heap.size + 1]? = some (.cells #[.int .i64 0, .int .i64 0, .slice none 0 0] 32 (0, 0)) := by
    rw [← size_alloc W (.cells #[.int .i64 w, .int .i64 h, .slice (some ⟨b, 0, none⟩) n cap, .int .i64 fz, .int .i64 pz] 28)]
    exact blk_at
  have g0 := gb_trans (World.grownBy_alloc W (.cells #[.int .i64 w, .int .i64 h, .slice (some ⟨b, 0, none⟩) n cap, .int .i64 fz, .int .i64 pz] 28) none) (World.grownBy_alloc _ (.cells #[.int .i64 0, .int .i64 0, .slice none 0 0] 32) none)
  have HB0 := Lib.hid B0
  have HI0 := Lib.hid I0
  have HG0 := Lib.hid g0
  clear hS hc h255 hcap hn B0 I0 g0 hcv
  go_enter Tryz.func13, Tryz.ntmps13
  go_wp2_with fail
  generalize (W.alloc (.cells #[.int .i64 w, .int .i64 h, .slice (some ⟨b, 0, none⟩) n cap, .int .i64 fz, .int .i64 pz] 28)).alloc (.cells #[.int .i64 0, .int .i64 0, .slice none 0 0] 32) = w0 at HB0 HI0 HG0 ⊢
  have q0 : w0.cell? ⟨W.heap.size, 0, none⟩ = some (.int .i64 w) := blk_cell HB0.out 0
  have q1 : w0.cell? ⟨W.heap.size, 1, none⟩ = some (.int .i64 h) := blk_cell HB0.out 1
  have q2 : w0.cell? ⟨W.heap.size, 2, none⟩ = some (.slice (some ⟨b, 0, none⟩) n cap) := blk_cell HB0.out 2
  go_region_law (first
    | (go_simp; go_at_call 40; refine (KB.out _ (gb_trans HG0.out (gb_drew w0 none))).mono ?_; rintro e w2 ⟨rfl, g2⟩; have G2 := Lib.hid (gb_trans (gb_drew w0 none) g2); have hcv2 := HCV.out w2; have B2 := (G2.out.block _ (blk_lt HB0.out) (by simp)).trans HB0.out; have I2 := (G2.out.block _ (blk_lt HI0.out) (by simp)).trans HI0.out; have kk0 : w2.cell? ⟨W.heap.size, 0, none⟩ = some (.int .i64 w) := blk_cell B2 0; have kk1 : w2.cell? ⟨W.heap.size, 1, none⟩ = some (.int .i64 h) := blk_cell B2 1; have kk2 : w2.cell? ⟨W.heap.size, 2, none⟩ = some (.slice (some ⟨b, 0, none⟩) n cap) := blk_cell B2 2; have gb3 := gb_bytes w2 5 S none; have B3 := (gb3.block _ (blk_lt B2) (by simp)).trans B2; have I3 := (gb3.block _ (blk_lt I2) (by simp)).trans I2; have m0 : (Lib.bytesWorld w2 5 S).cell? ⟨W.heap.size, 0, none⟩ = some (.int .i64 w) := blk_cell B3 0; have m1 : (Lib.bytesWorld w2 5 S).cell? ⟨W.heap.size, 1, none⟩ = some (.int .i64 h) := blk_cell B3 1; have m2 : (Lib.bytesWorld w2 5 S).cell? ⟨W.heap.size, 2, none⟩ = some (.slice (some ⟨b, 0, none⟩) n cap) := blk_cell B3 2; have r0 : (Lib.bytesWorld w2 5 S).cell? ⟨W.heap.size + 1, 0, none⟩ = some (.int .i64 0) := blk_cell I3 0; have r1 : (Lib.bytesWorld w2 5 S).cell? ⟨W.heap.size + 1, 1, none⟩ = some (.int .i64 0) := blk_cell I3 1; have r2 : (Lib.bytesWorld w2 5 S).cell? ⟨W.heap.size + 1, 2, none⟩ = some (.slice none 0 0) := blk_cell I3 2; have f0 := blk_free I3 0; have f1 := blk_free I3 1; have f2 := blk_free I3 2; have HG3 := Lib.hid gb3; have HI2 := Lib.hid (blk_lt I2); clear B2 I2 B3 I3 gb3 g2))
  all_goals
    go_wp2
    refine bodyPost_ret (v := .agg #[.int .i64 w, .int .i64 h, .slice (some ⟨w2.heap.size, 0, none⟩) (4 * n) (grownCap w2 (4 * n) 0 5)]) (by simp only [results, Tryz.results13]; go_simp) rfl ⟨_, _, rfl, ?_, ?_⟩
    · exact (((bx_bytes w2 S).other (gb_set _ (W.heap.size + 1) 0 _) (fun ad e => by cases e; have := HI2.out; show w2.heap.size ≠ _; omega)).other (gb_set _ (W.heap.size + 1) 1 _) (fun ad e => by cases e; have := HI2.out; show w2.heap.size ≠ _; omega)).other (gb_set _ (W.heap.size + 1) 2 _) (fun ad e => by cases e; have := HI2.out; show w2.heap.size ≠ _; omega)
    · exact gb_own3 (gb_trans (gb_trans HG0.out G2.out) HG3.out) (Nat.le_succ _)

end Go.Proofs.YtcfdippcobkbaaaGreat.Px

/- The law of layer 13: what is read is the document's, walked (written by wip/gen/lw1.py). -/
namespace Go.Proofs.YtcfdippcobkbaaaGreat.Px
open Go.ChangeShapes Go.WideShapes Go.ChangeAt Go.RowKit
open Go.Proofs.YtcfdippcobkbaaaGreat.Le Go.Proofs.YtcfdippcobkbaaaGreat.Tk Go.Proofs.YtcfdippcobkbaaaGreat.Sc Go.Proofs.YtcfdippcobkbaaaGreat.Sr Go.Proofs.YtcfdippcobkbaaaGreat.Ph Go.Proofs.YtcfdippcobkbaaaGreat.Ra
set_option linter.unusedVariables false

set_option maxRecDepth 100000 in
set_option maxHeartbeats 8000000 in
theorem treads_any (s : ByteArray) (W : World) (hs : s.size ≤ 9223372036854775807) : Calls Tryz.prog 3 #[.string s] W fun e w' => e = .returned (.bool true) ∧ W.grownBy w' none := by
  by_cases hlen : s.size ≤ 600
  · have dlen : decide ((600 : Int) < (s.size : Int)) = false := decide_eq_false (by omega)
    have KR := fun u => rread_calls s u (by omega)
    rcases readV_gd s with ⟨k, w, h, m, a, hV, hg⟩ | ⟨f, p, hV, f0, f4, hp⟩
    · rw [hV] at KR
      have KR := Lib.hid KR
      by_cases hin : (k ≤ 3) ∧ w ≤ 100 ∧ h ≤ 100
      · obtain ⟨hk, hw, hh⟩ := hin
        have dk : decide ((3 : Int) < (k : Int)) = false := decide_eq_false (by omega)
        have dw : decide ((100 : Int) < (w : Int)) = false := decide_eq_false (by omega)
        have dh : decide ((100 : Int) < (h : Int)) = false := decide_eq_false (by omega)
        have HS := Lib.hid (show s.size ≤ 9223372036854775806 by omega)
        have HLEN := Lib.hid hlen
        have HV := Lib.hid hV
        have HG := Lib.hid hg
        have HK := Lib.hid hk
        clear hs hlen hV hg hk
        go_enter Tryz.func3, Tryz.ntmps3
        go_wp2_with fail
        refine (KR.out _).mono ?_
        rintro e w1 ⟨rfl, g1⟩
        have B1 : (w1.alloc (.cells #[.int .i64 k, .int .i64 w, .int .i64 h, .int .i64 m, .int .i64 a, .int .i64 0, .int .i64 0] 24)).heap[w1.heap.size]? = _ := blk_at
        have HB1 := Lib.hid B1
        have HG1 := Lib.hid (gb_trans g1 (World.grownBy_alloc w1 (.cells #[.int .i64 k, .int .i64 w, .int .i64 h, .int .i64 m, .int .i64 a, .int .i64 0, .int .i64 0] 24) none))
        clear B1 g1 KR
        simp only [hdA, show ((0 : Nat) : Int) = 0 from rfl]
        have hb1 := blk_lt HB1.out
        have KD0 := (fun u => rtext_any s k w h m a u HS.out HG.out HK.out (Nat.le_trans (Nat.mul_le_mul hw hh) (by decide)))
        have HKD := Lib.hid KD0
        have c0 := blk_cell HB1.out 0
        have c1 := blk_cell HB1.out 1
        have c2 := blk_cell HB1.out 2
        have c3 := blk_cell HB1.out 3
        have c4 := blk_cell HB1.out 4
        have c5 := blk_cell HB1.out 5
        have c6 := blk_cell HB1.out 6
        simp only [List.getElem?_toArray, List.getElem?_cons_succ, List.getElem?_cons_zero] at c0 c1 c2 c3 c4 c5 c6
        clear KD0
        go_wp2_with fail
        generalize w1.alloc (.cells #[.int .i64 k, .int .i64 w, .int .i64 h, .int .i64 m, .int .i64 a, .int .i64 0, .int .i64 0] 24) = w2 at HB1 HG1 c0 c1 c2 c3 c4 c5 c6 ⊢
        refine (HKD.out w2).mono ?_
        rintro e w3 ⟨g3, hD⟩
        clear c0 c1 c2 c3 c4 c5 c6 HB1 hb1
        obtain ⟨z, hz⟩ : ∃ z, pxs s k m a (w * h) = z := ⟨_, rfl⟩
        have hN : w * h ≤ 10000 := Nat.le_trans (Nat.mul_le_mul hw hh) (by decide)
        have hN1 : 1 ≤ w * h := Nat.mul_pos HG.out.w1 HG.out.h1
        have hgd := pxs_gd s k m a (w * h) HG.out.le HG.out.m1
        have KL := fun u => lread13_calls s k w h m a 100000 u HS.out HV.out HG.out HK.out hw hh (by decide) (by decide)
        obtain ⟨zd, hzd⟩ : ∃ zd, pxs s k m a (w * h) = zd := ⟨_, rfl⟩
        have heq : Eqv z zd := by
          rw [← hz, ← hzd]
          exact (Eqv.refl (pxs s k m a (w * h)))
        rw [hzd] at hD
        rw [hz] at KL hgd
        have hln := pxs_len s k m a (w * h)
        have hn0 := readN_le s
        rw [hz] at hln
        have HLN := Lib.hid hln
        have HLL := Lib.hid HLEN.out
        have HKL := Lib.hid KL
        have HGD := Lib.hid hgd
        have HEQ := Lib.hid heq
        have HN := Lib.hid (And.intro hN (And.intro hN1 hn0))
        have HG3 := Lib.hid (gb_trans HG1.out g3)
        clear KL hgd heq hN hN1 hn0 hz HG1 hln hzd
        rcases hD with ⟨d0, rfl⟩ | ⟨d0, L, rfl, own⟩
        · obtain ⟨e1, e2, e3⟩ := HEQ.out
          obtain ⟨zf, hzf⟩ : ∃ x, zd.f = x := ⟨_, rfl⟩
          obtain ⟨zp, hzp⟩ : ∃ x, zd.p = x := ⟨_, rfl⟩
          rw [hzf] at e1 d0
          rw [hzp] at e2
          rw [hzf, hzp]
          have dn : ((zf : Int) != 0) = true := by rw [bne_iff_ne]; omega
          have D4 : (w3.alloc (.cells #[.int .i64 0, .int .i64 0, .slice none 0 0, .int .i64 (zf : Int), .int .i64 (zp : Int)] 28)).heap[w3.heap.size]? = _ := blk_at
          have HD4 := Lib.hid D4
          have HG4 := Lib.hid (gb_trans HG3.out (World.grownBy_alloc w3 (.cells #[.int .i64 0, .int .i64 0, .slice none 0 0, .int .i64 (zf : Int), .int .i64 (zp : Int)] 28) none))
          clear hzf hzp D4 g3
          go_wp2_with fail
          generalize w3.alloc (.cells #[.int .i64 0, .int .i64 0, .slice none 0 0, .int .i64 (zf : Int), .int .i64 (zp : Int)] 28) = w4 at HD4 HG4 ⊢
          refine (HKL.out w4).mono ?_
          rintro e w5 ⟨img, fault, l, ok, rfl, y, _, _, _, g5, ⟨z0, _⟩ | ⟨_, rfl, rfl, rfl, _, _⟩ | ⟨hno, _⟩⟩
          · exact absurd (e1.symm.trans z0) d0
          · rw [e1, e2]
            have gg := gb_trans (World.grownBy_alloc w5 (.cells #[.int .i64 0, .int .i64 0, .slice none 0 0] 32) none) (World.grownBy_alloc _ (.cells #[.int .i64 (zf : Int), .int .i64 3, .int .i64 (zp : Int)] 34) none)
            have D6 := ((gb_trans g5 gg).block _ (blk_lt HD4.out) (by simp)).trans HD4.out
            have F6 : Fl (w5.heap.size + 1) zf 3 zp ((w5.alloc (.cells #[.int .i64 0, .int .i64 0, .slice none 0 0] 32)).alloc (.cells #[.int .i64 (zf : Int), .int .i64 3, .int .i64 (zp : Int)] 34)) := by
              rw [← size_alloc w5 (.cells #[.int .i64 0, .int .i64 0, .slice none 0 0] 32)]
              exact blk_at
            have d3 := blk_cell D6 3
            have d4 := blk_cell D6 4
            simp only [List.getElem?_toArray, List.getElem?_cons_succ, List.getElem?_cons_zero] at d3 d4
            have p0 := F6.c0
            have p1 := F6.c1
            have p2 := F6.c2
            have dlt := blk_lt D6
            have HG6 := Lib.hid (gb_trans (gb_trans HG4.out g5) gg)
            clear D6 F6 gg g5 HD4 HG4 HKL
            simp only [img0]
            go_wp2_with fail
            refine (awake13_calls _).mono ?_
            rintro e w9 ⟨rfl, g9⟩
            have G9 := Lib.hid (gb_trans HG6.out g9)
            clear g9
            go_wp2
            go_ret
            exact ⟨rfl, G9.out⟩
          · exfalso
            have h1 := HGD.out
            have h2 := HN.out
            have h3 := HLL.out
            omega
        · obtain ⟨e1, e2, e3⟩ := HEQ.out
          have hlen : z.l.length = w * h := HLN.out (e1.trans d0)
          have hcells : ∃ b cap, L = .slice (some ⟨b, 0, none⟩) (w * h) cap ∧ CB b z.l w3 ∧ w * h ≤ cap := by
            rcases own.2 with ⟨_, h0⟩ | ⟨b, cap, cur, hL, _, hg, hle, _, _, htk⟩
            · have := HN.out.2.1
              omega
            · exact ⟨b, cap, hL, ⟨cur, hg, by rw [hlen, htk, e3]⟩, hle⟩
          obtain ⟨b, cap, rfl, hCB, hcap⟩ := hcells
          have D4 : (w3.alloc (.cells #[.int .i64 w, .int .i64 h, .slice (some ⟨b, 0, none⟩) (w * h) cap, .int .i64 0, .int .i64 0] 28)).heap[w3.heap.size]? = _ := blk_at
          have HD4 := Lib.hid D4
          have HCB := Lib.hid (hCB.kept (World.grownBy_alloc w3 (.cells #[.int .i64 w, .int .i64 h, .slice (some ⟨b, 0, none⟩) (w * h) cap, .int .i64 0, .int .i64 0] 28) none) (by simp))
          have HG4 := Lib.hid (gb_trans HG3.out (World.grownBy_alloc w3 (.cells #[.int .i64 w, .int .i64 h, .slice (some ⟨b, 0, none⟩) (w * h) cap, .int .i64 0, .int .i64 0] 28) none))
          have HLL2 := Lib.hid hlen
          have HE1 := Lib.hid (e1.trans d0)
          have HCAP := Lib.hid hcap
          clear D4 g3 hCB own hlen e1 e2 e3 d0 hcap HEQ
          go_wp2_with fail
          generalize w3.alloc (.cells #[.int .i64 w, .int .i64 h, .slice (some ⟨b, 0, none⟩) (w * h) cap, .int .i64 0, .int .i64 0] 28) = w4 at HD4 HG4 HCB ⊢
          refine (HKL.out w4).mono ?_
          rintro e w5 ⟨img, fault, l, ok, rfl, y, _, _, _, g5, ⟨_, rfl, ⟨g, rfl, hb⟩, rfl, _, _⟩ | ⟨z0, _⟩ | ⟨hno, _⟩⟩
          · obtain ⟨n, hn⟩ : ∃ n, w * h = n := ⟨_, rfl⟩
            have KP := fun u (hc : CB b z.l u) => rplain_calls b cap w h 0 0 z.l u hc HGD.out.1 (by rw [HLL2.out]; exact HN.out.1) (by rw [HLL2.out]; exact HN.out.2.1) (by rw [HLL2.out]; exact HCAP.out)
            rw [HLL2.out] at KP
            have hfull : rb z.l (w * h) = ⟨(pbs z.l).toArray⟩ := by rw [← HLL2.out]; exact rb_full z.l
            have hszS : (rb z.l (w * h)).size = 4 * (w * h) := rb_size z.l (w * h) (by rw [HLL2.out]; exact Nat.le_refl _)
            rw [hfull] at hb hszS
            obtain ⟨S, hS⟩ : ∃ S : ByteArray, (⟨(pbs z.l).toArray⟩ : ByteArray) = S := ⟨_, rfl⟩
            rw [hS] at KP hb hszS
            have KSM := fun u (g' c' : Nat) (h1 : Bx (some ⟨g, 0, none⟩) S u) (h2 : Bx (some ⟨g', 0, none⟩) S u) => rsame_calls (w : Int) (h : Int) (w : Int) (h : Int) (some ⟨g, 0, none⟩) (some ⟨g', 0, none⟩) (4 * (w * h)) c' S S u h1 h2
            simp only [sameB_self, hszS] at KSM
            rw [hn] at KP hszS ⊢
            simp only [hn] at KSM
            have HKP := Lib.hid KP
            have HKSM := Lib.hid KSM
            have gg := gb_trans (World.grownBy_alloc w5 (.cells #[.int .i64 w, .int .i64 h, .slice (some ⟨g, 0, none⟩) (4 * n) (4 * n)] 32) none) (World.grownBy_alloc _ (.cells #[.int .i64 0, .int .i64 0, .int .i64 0] 34) none)
            have D6 := ((gb_trans g5 gg).block _ (blk_lt HD4.out) (by simp)).trans HD4.out
            rw [hn] at D6
            have I6 : ((w5.alloc (.cells #[.int .i64 w, .int .i64 h, .slice (some ⟨g, 0, none⟩) (4 * n) (4 * n)] 32)).alloc (.cells #[.int .i64 0, .int .i64 0, .int .i64 0] 34)).heap[w5.heap.size]? = some (.cells #[.int .i64 w, .int .i64 h, .slice (some ⟨g, 0, none⟩) (4 * n) (4 * n)] 32 (0, 0)) := blk_al blk_at _
            have F6 : Fl (w5.heap.size + 1) 0 0 0 ((w5.alloc (.cells #[.int .i64 w, .int .i64 h, .slice (some ⟨g, 0, none⟩) (4 * n) (4 * n)] 32)).alloc (.cells #[.int .i64 0, .int .i64 0, .int .i64 0] 34)) := by
              rw [← size_alloc w5 (.cells #[.int .i64 w, .int .i64 h, .slice (some ⟨g, 0, none⟩) (4 * n) (4 * n)] 32)]
              exact Fl.new _
            have HX6 := Lib.hid ((bx_of hb).grown gg)
            have HC6 := Lib.hid (HCB.out.kept (gb_trans g5 gg) (by simp))
            have HG6 := Lib.hid (gb_trans (gb_trans HG4.out g5) gg)
            have HD6 := Lib.hid D6
            have HI6 := Lib.hid I6
            have HF6 := Lib.hid F6
            have p0 := F6.c0
            have p1 := F6.c1
            have p2 := F6.c2
            have i0 := blk_cell I6 0
            have i1 := blk_cell I6 1
            have i2 := blk_cell I6 2
            have d0 := blk_cell D6 0
            have d1 := blk_cell D6 1
            have d2 := blk_cell D6 2
            have d3 := blk_cell D6 3
            have d4 := blk_cell D6 4
            simp only [List.getElem?_toArray, List.getElem?_cons_succ, List.getElem?_cons_zero] at i0 i1 i2 d0 d1 d2 d3 d4
            have dlt := blk_lt D6
            have KAW := Lib.hid (fun u => awake13_calls u)
            clear D6 I6 F6 gg g5 HD4 HG4 HKL hb KP KSM hfull hszS hS HCB hn HLL2 HN HGD HE1 HCAP
            simp only [okF]
            go_wp2_with fail
            generalize (w5.alloc (.cells #[.int .i64 w, .int .i64 h, .slice (some ⟨g, 0, none⟩) (4 * n) (4 * n)] 32)).alloc (.cells #[.int .i64 0, .int .i64 0, .int .i64 0] 34) = w6 at HX6 HC6 HG6 HD6 HI6 HF6 p0 p1 p2 i0 i1 i2 d0 d1 d2 d3 d4 dlt ⊢
            go_region_held3 (fun w' => w'.cell? ⟨w5.heap.size + 1, 0, none⟩ = some (.int .i64 0) ∧ w'.cell? ⟨w5.heap.size + 1, 1, none⟩ = some (.int .i64 0) ∧ w'.cell? ⟨w5.heap.size + 1, 2, none⟩ = some (.int .i64 0) ∧ w'.cell? ⟨w5.heap.size, 0, none⟩ = some (.int .i64 w) ∧ w'.cell? ⟨w5.heap.size, 1, none⟩ = some (.int .i64 h) ∧ w'.cell? ⟨w5.heap.size, 2, none⟩ = some (.slice (some ⟨g, 0, none⟩) (4 * n) (4 * n)) ∧ w'.cell? ⟨w3.heap.size, 0, none⟩ = some (.int .i64 w) ∧ w'.cell? ⟨w3.heap.size, 1, none⟩ = some (.int .i64 h) ∧ w'.cell? ⟨w3.heap.size, 2, none⟩ = some (.slice (some ⟨b, 0, none⟩) n cap) ∧ w'.cell? ⟨w3.heap.size, 3, none⟩ = some (.int .i64 0) ∧ w'.cell? ⟨w3.heap.size, 4, none⟩ = some (.int .i64 0)) (go_keep)
              (first
                | (go_at_call 13; refine (HKP.out _ (HC6.out.kept (gb_drew w6 none) (by simp))).mono ?_; rintro e w7 ⟨g7, c7, rfl, X7, g7g⟩; have G7 := Lib.hid (gb_trans (gb_drew w6 none) g7g); have HX7 := Lib.hid X7; have B_ := (G7.out.block _ (blk_lt HF6.out) (by simp)).trans HF6.out; have ka0 : w7.cell? ⟨w5.heap.size + 1, 0, none⟩ = some (.int .i64 0) := blk_cell B_ 0; have ka1 : w7.cell? ⟨w5.heap.size + 1, 1, none⟩ = some (.int .i64 0) := blk_cell B_ 1; have ka2 : w7.cell? ⟨w5.heap.size + 1, 2, none⟩ = some (.int .i64 0) := blk_cell B_ 2; have I_ := (G7.out.block _ (blk_lt HI6.out) (by simp)).trans HI6.out; have ka3 : w7.cell? ⟨w5.heap.size, 0, none⟩ = some (.int .i64 w) := blk_cell I_ 0; have ka4 : w7.cell? ⟨w5.heap.size, 1, none⟩ = some (.int .i64 h) := blk_cell I_ 1; have ka5 : w7.cell? ⟨w5.heap.size, 2, none⟩ = some (.slice (some ⟨g, 0, none⟩) (4 * n) (4 * n)) := blk_cell I_ 2; have D_ := (G7.out.block _ (blk_lt HD6.out) (by simp)).trans HD6.out; have ka6 : w7.cell? ⟨w3.heap.size, 0, none⟩ = some (.int .i64 w) := blk_cell D_ 0; have ka7 : w7.cell? ⟨w3.heap.size, 1, none⟩ = some (.int .i64 h) := blk_cell D_ 1; have ka8 : w7.cell? ⟨w3.heap.size, 2, none⟩ = some (.slice (some ⟨b, 0, none⟩) n cap) := blk_cell D_ 2; have ka9 : w7.cell? ⟨w3.heap.size, 3, none⟩ = some (.int .i64 0) := blk_cell D_ 3; have ka10 : w7.cell? ⟨w3.heap.size, 4, none⟩ = some (.int .i64 0) := blk_cell D_ 4; clear B_ I_ D_; clear X7 g7g)
                | (go_at_call 12; refine (HKSM.out _ g7 c7 (HX6.out.grown G7.out) HX7.out).mono ?_; rintro e w8 ⟨rfl, g8⟩; have G8 := Lib.hid (gb_trans G7.out g8); have B_ := (G8.out.block _ (blk_lt HF6.out) (by simp)).trans HF6.out; have kb0 : w8.cell? ⟨w5.heap.size + 1, 0, none⟩ = some (.int .i64 0) := blk_cell B_ 0; have kb1 : w8.cell? ⟨w5.heap.size + 1, 1, none⟩ = some (.int .i64 0) := blk_cell B_ 1; have kb2 : w8.cell? ⟨w5.heap.size + 1, 2, none⟩ = some (.int .i64 0) := blk_cell B_ 2; have I_ := (G8.out.block _ (blk_lt HI6.out) (by simp)).trans HI6.out; have kb3 : w8.cell? ⟨w5.heap.size, 0, none⟩ = some (.int .i64 w) := blk_cell I_ 0; have kb4 : w8.cell? ⟨w5.heap.size, 1, none⟩ = some (.int .i64 h) := blk_cell I_ 1; have kb5 : w8.cell? ⟨w5.heap.size, 2, none⟩ = some (.slice (some ⟨g, 0, none⟩) (4 * n) (4 * n)) := blk_cell I_ 2; have D_ := (G8.out.block _ (blk_lt HD6.out) (by simp)).trans HD6.out; have kb6 : w8.cell? ⟨w3.heap.size, 0, none⟩ = some (.int .i64 w) := blk_cell D_ 0; have kb7 : w8.cell? ⟨w3.heap.size, 1, none⟩ = some (.int .i64 h) := blk_cell D_ 1; have kb8 : w8.cell? ⟨w3.heap.size, 2, none⟩ = some (.slice (some ⟨b, 0, none⟩) n cap) := blk_cell D_ 2; have kb9 : w8.cell? ⟨w3.heap.size, 3, none⟩ = some (.int .i64 0) := blk_cell D_ 3; have kb10 : w8.cell? ⟨w3.heap.size, 4, none⟩ = some (.int .i64 0) := blk_cell D_ 4; clear B_ I_ D_; clear g8)
                | (go_at_call 8; refine (KAW.out _).mono ?_; rintro e w9 ⟨rfl, g9⟩; have G9 := Lib.hid (gb_trans G8.out g9); have B_ := (G9.out.block _ (blk_lt HF6.out) (by simp)).trans HF6.out; have kc0 : w9.cell? ⟨w5.heap.size + 1, 0, none⟩ = some (.int .i64 0) := blk_cell B_ 0; have kc1 : w9.cell? ⟨w5.heap.size + 1, 1, none⟩ = some (.int .i64 0) := blk_cell B_ 1; have kc2 : w9.cell? ⟨w5.heap.size + 1, 2, none⟩ = some (.int .i64 0) := blk_cell B_ 2; have I_ := (G9.out.block _ (blk_lt HI6.out) (by simp)).trans HI6.out; have kc3 : w9.cell? ⟨w5.heap.size, 0, none⟩ = some (.int .i64 w) := blk_cell I_ 0; have kc4 : w9.cell? ⟨w5.heap.size, 1, none⟩ = some (.int .i64 h) := blk_cell I_ 1; have kc5 : w9.cell? ⟨w5.heap.size, 2, none⟩ = some (.slice (some ⟨g, 0, none⟩) (4 * n) (4 * n)) := blk_cell I_ 2; have D_ := (G9.out.block _ (blk_lt HD6.out) (by simp)).trans HD6.out; have kc6 : w9.cell? ⟨w3.heap.size, 0, none⟩ = some (.int .i64 w) := blk_cell D_ 0; have kc7 : w9.cell? ⟨w3.heap.size, 1, none⟩ = some (.int .i64 h) := blk_cell D_ 1; have kc8 : w9.cell? ⟨w3.heap.size, 2, none⟩ = some (.slice (some ⟨b, 0, none⟩) n cap) := blk_cell D_ 2; have kc9 : w9.cell? ⟨w3.heap.size, 3, none⟩ = some (.int .i64 0) := blk_cell D_ 3; have kc10 : w9.cell? ⟨w3.heap.size, 4, none⟩ = some (.int .i64 0) := blk_cell D_ 4; clear B_ I_ D_; clear g9))
            all_goals
              go_wp2
              go_ret
              exact ⟨rfl, gb_trans HG6.out G9.out⟩
          · exact absurd HE1.out z0
          · exfalso
            have h1 := HGD.out
            have h2 := HN.out
            have h3 := HLL.out
            omega
      · have hor : (3 < k) ∨ 100 < w ∨ 100 < h := by omega
        by_cases hkk : 3 < k
        · have dk : decide ((3 : Int) < (k : Int)) = true := decide_eq_true (by omega)
          clear hin hor hs hV hg
          go_enter Tryz.func3, Tryz.ntmps3
          go_wp2_with fail
          refine (KR.out _).mono ?_
          rintro e w1 ⟨rfl, g1⟩
          have HG1 := Lib.hid (gb_trans g1 (World.grownBy_alloc w1 (.cells #[.int .i64 k, .int .i64 w, .int .i64 h, .int .i64 m, .int .i64 a, .int .i64 0, .int .i64 0] 24) none))
          clear g1 KR
          simp only [hdA, show ((0 : Nat) : Int) = 0 from rfl]
          go_wp2_with fail
          refine (awake13_calls _).mono ?_
          rintro e w9 ⟨rfl, g9⟩
          have G9 := Lib.hid (gb_trans HG1.out g9)
          clear g9
          go_wp2
          go_ret
          exact ⟨rfl, G9.out⟩
        · have dk : decide ((3 : Int) < (k : Int)) = false := decide_eq_false (by omega)
          by_cases hww : 100 < w
          · have dw : decide ((100 : Int) < (w : Int)) = true := decide_eq_true (by omega)
            clear hin hor hs hV hg hkk
            go_enter Tryz.func3, Tryz.ntmps3
            go_wp2_with fail
            refine (KR.out _).mono ?_
            rintro e w1 ⟨rfl, g1⟩
            have HG1 := Lib.hid (gb_trans g1 (World.grownBy_alloc w1 (.cells #[.int .i64 k, .int .i64 w, .int .i64 h, .int .i64 m, .int .i64 a, .int .i64 0, .int .i64 0] 24) none))
            clear g1 KR
            simp only [hdA, show ((0 : Nat) : Int) = 0 from rfl]
            go_wp2_with fail
            refine (awake13_calls _).mono ?_
            rintro e w9 ⟨rfl, g9⟩
            have G9 := Lib.hid (gb_trans HG1.out g9)
            clear g9
            go_wp2
            go_ret
            exact ⟨rfl, G9.out⟩
          · have dw : decide ((100 : Int) < (w : Int)) = false := decide_eq_false (by omega)
            have dh : decide ((100 : Int) < (h : Int)) = true := decide_eq_true (by omega)
            clear hin hor hs hV hg hkk
            go_enter Tryz.func3, Tryz.ntmps3
            go_wp2_with fail
            refine (KR.out _).mono ?_
            rintro e w1 ⟨rfl, g1⟩
            have HG1 := Lib.hid (gb_trans g1 (World.grownBy_alloc w1 (.cells #[.int .i64 k, .int .i64 w, .int .i64 h, .int .i64 m, .int .i64 a, .int .i64 0, .int .i64 0] 24) none))
            clear g1 KR
            simp only [hdA, show ((0 : Nat) : Int) = 0 from rfl]
            go_wp2_with fail
            refine (awake13_calls _).mono ?_
            rintro e w9 ⟨rfl, g9⟩
            have G9 := Lib.hid (gb_trans HG1.out g9)
            clear g9
            go_wp2
            go_ret
            exact ⟨rfl, G9.out⟩
    · rw [hV] at KR
      have KR := Lib.hid KR
      have df : ((f : Int) != 0) = true := by rw [bne_iff_ne]; omega
      clear hs hV
      go_enter Tryz.func3, Tryz.ntmps3
      go_wp2_with fail
      refine (KR.out _).mono ?_
      rintro e w1 ⟨rfl, g1⟩
      have HG1 := Lib.hid (gb_trans g1 (World.grownBy_alloc w1 (.cells #[.int .i64 0, .int .i64 0, .int .i64 0, .int .i64 0, .int .i64 0, .int .i64 f, .int .i64 p] 24) none))
      clear g1 KR
      simp only [hdA, show ((0 : Nat) : Int) = 0 from rfl]
      go_wp2_with fail
      refine (awake13_calls _).mono ?_
      rintro e w9 ⟨rfl, g9⟩
      have G9 := Lib.hid (gb_trans HG1.out g9)
      clear g9
      go_wp2
      go_ret
      exact ⟨rfl, G9.out⟩
  · have dlen : decide ((600 : Int) < (s.size : Int)) = true := decide_eq_true (by omega)
    clear hs
    go_enter Tryz.func3, Tryz.ntmps3
    go_wp2_with fail
    refine (awake13_calls _).mono ?_
    rintro e w9 ⟨rfl, g9⟩
    have G9 := Lib.hid g9
    clear g9
    go_wp2
    go_ret
    exact ⟨rfl, G9.out⟩

end Go.Proofs.YtcfdippcobkbaaaGreat.Px

/- The law of layer 14: what is read is the document's, walked (written by wip/gen/lw1.py). -/
namespace Go.Proofs.YtcfdippcobkbaaaGreat.Px
open Go.ChangeShapes Go.WideShapes Go.ChangeAt Go.RowKit
open Go.Proofs.YtcfdippcobkbaaaGreat.Le Go.Proofs.YtcfdippcobkbaaaGreat.Tk Go.Proofs.YtcfdippcobkbaaaGreat.Sc Go.Proofs.YtcfdippcobkbaaaGreat.Sr Go.Proofs.YtcfdippcobkbaaaGreat.Ph Go.Proofs.YtcfdippcobkbaaaGreat.Ra
set_option linter.unusedVariables false

set_option maxRecDepth 100000 in
set_option maxHeartbeats 8000000 in
theorem rreads_any (s : ByteArray) (W : World) (hs : s.size ≤ 9223372036854775807) : Calls Tryz.prog 5 #[.string s] W fun e w' => e = .returned (.bool true) ∧ W.grownBy w' none := by
  by_cases hlen : s.size ≤ 600
  · have dlen : decide ((600 : Int) < (s.size : Int)) = false := decide_eq_false (by omega)
    have KR := fun u => rread_calls s u (by omega)
    rcases readV_gd s with ⟨k, w, h, m, a, hV, hg⟩ | ⟨f, p, hV, f0, f4, hp⟩
    · rw [hV] at KR
      have KR := Lib.hid KR
      by_cases hin : (4 ≤ k) ∧ w ≤ 100 ∧ h ≤ 100
      · obtain ⟨hk, hw, hh⟩ := hin
        have dk : decide ((k : Int) < 4) = false := decide_eq_false (by omega)
        have dw : decide ((100 : Int) < (w : Int)) = false := decide_eq_false (by omega)
        have dh : decide ((100 : Int) < (h : Int)) = false := decide_eq_false (by omega)
        have HS := Lib.hid (show s.size ≤ 9223372036854775806 by omega)
        have HLEN := Lib.hid hlen
        have HV := Lib.hid hV
        have HG := Lib.hid hg
        have HK := Lib.hid hk
        clear hs hlen hV hg hk
        go_enter Tryz.func5, Tryz.ntmps5
        go_wp2_with fail
        refine (KR.out _).mono ?_
        rintro e w1 ⟨rfl, g1⟩
        have B1 : (w1.alloc (.cells #[.int .i64 k, .int .i64 w, .int .i64 h, .int .i64 m, .int .i64 a, .int .i64 0, .int .i64 0] 24)).heap[w1.heap.size]? = _ := blk_at
        have HB1 := Lib.hid B1
        have HG1 := Lib.hid (gb_trans g1 (World.grownBy_alloc w1 (.cells #[.int .i64 k, .int .i64 w, .int .i64 h, .int .i64 m, .int .i64 a, .int .i64 0, .int .i64 0] 24) none))
        clear B1 g1 KR
        simp only [hdA, show ((0 : Nat) : Int) = 0 from rfl]
        have hb1 := blk_lt HB1.out
        have KD0 := (fun u => rraw_any s k w h m a u HLEN.out HG.out HK.out hw hh)
        have HKD := Lib.hid KD0
        have c0 := blk_cell HB1.out 0
        have c1 := blk_cell HB1.out 1
        have c2 := blk_cell HB1.out 2
        have c3 := blk_cell HB1.out 3
        have c4 := blk_cell HB1.out 4
        have c5 := blk_cell HB1.out 5
        have c6 := blk_cell HB1.out 6
        simp only [List.getElem?_toArray, List.getElem?_cons_succ, List.getElem?_cons_zero] at c0 c1 c2 c3 c4 c5 c6
        clear KD0
        go_wp2_with fail
        generalize w1.alloc (.cells #[.int .i64 k, .int .i64 w, .int .i64 h, .int .i64 m, .int .i64 a, .int .i64 0, .int .i64 0] 24) = w2 at HB1 HG1 c0 c1 c2 c3 c4 c5 c6 ⊢
        refine (HKD.out w2).mono ?_
        rintro e w3 ⟨g3, hD⟩
        clear c0 c1 c2 c3 c4 c5 c6 HB1 hb1
        obtain ⟨z, hz⟩ : ∃ z, rawZ s k m w a (w * h) = z := ⟨_, rfl⟩
        have hN : w * h ≤ 10000 := Nat.le_trans (Nat.mul_le_mul hw hh) (by decide)
        have hN1 : 1 ≤ w * h := Nat.mul_pos HG.out.w1 HG.out.h1
        have hgd := rawZ_gd s k m w a (w * h) HG.out.le HG.out.m1
        have KL := fun u => lread14_calls s k w h m a 100000 u HS.out HV.out HG.out HK.out hw hh (by decide) (by decide)
        obtain ⟨zd, hzd⟩ : ∃ zd, rxs s k m a (rowV k w m) w (w * h) = zd := ⟨_, rfl⟩
        have heq : Eqv z zd := by
          rw [← hz, ← hzd]
          exact (rawZ_rxs s k m w a (w * h) (by have h1 := HG.out.k6; have h2 := HK.out; omega) (by have := HG.out.w1; omega) HG.out.le)
        rw [hzd] at hD
        rw [hz] at KL hgd
        have hln := rawZ_len s k m w a (w * h)
        have hn0 := readN_le s
        rw [hz] at hln
        have HLN := Lib.hid hln
        have HLL := Lib.hid HLEN.out
        have HKL := Lib.hid KL
        have HGD := Lib.hid hgd
        have HEQ := Lib.hid heq
        have HN := Lib.hid (And.intro hN (And.intro hN1 hn0))
        have HG3 := Lib.hid (gb_trans HG1.out g3)
        clear KL hgd heq hN hN1 hn0 hz HG1 hln hzd
        rcases hD with ⟨d0, rfl⟩ | ⟨d0, L, rfl, own⟩
        · obtain ⟨e1, e2, e3⟩ := HEQ.out
          obtain ⟨zf, hzf⟩ : ∃ x, zd.f = x := ⟨_, rfl⟩
          obtain ⟨zp, hzp⟩ : ∃ x, zd.p = x := ⟨_, rfl⟩
          rw [hzf] at e1 d0
          rw [hzp] at e2
          rw [hzf, hzp]
          have dn : ((zf : Int) != 0) = true := by rw [bne_iff_ne]; omega
          have D4 : (w3.alloc (.cells #[.int .i64 0, .int .i64 0, .slice none 0 0, .int .i64 (zf : Int), .int .i64 (zp : Int)] 28)).heap[w3.heap.size]? = _ := blk_at
          have HD4 := Lib.hid D4
          have HG4 := Lib.hid (gb_trans HG3.out (World.grownBy_alloc w3 (.cells #[.int .i64 0, .int .i64 0, .slice none 0 0, .int .i64 (zf : Int), .int .i64 (zp : Int)] 28) none))
          clear hzf hzp D4 g3
          go_wp2_with fail
          generalize w3.alloc (.cells #[.int .i64 0, .int .i64 0, .slice none 0 0, .int .i64 (zf : Int), .int .i64 (zp : Int)] 28) = w4 at HD4 HG4 ⊢
          refine (HKL.out w4).mono ?_
          rintro e w5 ⟨img, fault, l, ok, rfl, y, _, _, _, g5, ⟨z0, _⟩ | ⟨_, rfl, rfl, rfl, _, _⟩ | ⟨hno, _⟩⟩
          · exact absurd (e1.symm.trans z0) d0
          · rw [e1, e2]
            have gg := gb_trans (World.grownBy_alloc w5 (.cells #[.int .i64 0, .int .i64 0, .slice none 0 0] 32) none) (World.grownBy_alloc _ (.cells #[.int .i64 (zf : Int), .int .i64 3, .int .i64 (zp : Int)] 34) none)
            have D6 := ((gb_trans g5 gg).block _ (blk_lt HD4.out) (by simp)).trans HD4.out
            have F6 : Fl (w5.heap.size + 1) zf 3 zp ((w5.alloc (.cells #[.int .i64 0, .int .i64 0, .slice none 0 0] 32)).alloc (.cells #[.int .i64 (zf : Int), .int .i64 3, .int .i64 (zp : Int)] 34)) := by
              rw [← size_alloc w5 (.cells #[.int .i64 0, .int .i64 0, .slice none 0 0] 32)]
              exact blk_at
            have d3 := blk_cell D6 3
            have d4 := blk_cell D6 4
            simp only [List.getElem?_toArray, List.getElem?_cons_succ, List.getElem?_cons_zero] at d3 d4
            have p0 := F6.c0
            have p1 := F6.c1
            have p2 := F6.c2
            have dlt := blk_lt D6
            have HG6 := Lib.hid (gb_trans (gb_trans HG4.out g5) gg)
            clear D6 F6 gg g5 HD4 HG4 HKL
            simp only [img0]
            go_wp2_with fail
            refine (awake14_calls _).mono ?_
            rintro e w9 ⟨rfl, g9⟩
            have G9 := Lib.hid (gb_trans HG6.out g9)
            clear g9
            go_wp2
            go_ret
            exact ⟨rfl, G9.out⟩
          · exfalso
            have h1 := HGD.out
            have h2 := HN.out
            have h3 := HLL.out
            omega
        · obtain ⟨e1, e2, e3⟩ := HEQ.out
          have hlen : z.l.length = w * h := HLN.out (e1.trans d0)
          have hcells : ∃ b cap, L = .slice (some ⟨b, 0, none⟩) (w * h) cap ∧ CB b z.l w3 ∧ w * h ≤ cap := by
            rcases own.2 with ⟨_, h0⟩ | ⟨b, cap, cur, hL, _, hg, hle, _, _, htk⟩
            · have := HN.out.2.1
              omega
            · exact ⟨b, cap, hL, ⟨cur, hg, by rw [hlen, htk, e3]⟩, hle⟩
          obtain ⟨b, cap, rfl, hCB, hcap⟩ := hcells
          have D4 : (w3.alloc (.cells #[.int .i64 w, .int .i64 h, .slice (some ⟨b, 0, none⟩) (w * h) cap, .int .i64 0, .int .i64 0] 28)).heap[w3.heap.size]? = _ := blk_at
          have HD4 := Lib.hid D4
          have HCB := Lib.hid (hCB.kept (World.grownBy_alloc w3 (.cells #[.int .i64 w, .int .i64 h, .slice (some ⟨b, 0, none⟩) (w * h) cap, .int .i64 0, .int .i64 0] 28) none) (by simp))
          have HG4 := Lib.hid (gb_trans HG3.out (World.grownBy_alloc w3 (.cells #[.int .i64 w, .int .i64 h, .slice (some ⟨b, 0, none⟩) (w * h) cap, .int .i64 0, .int .i64 0] 28) none))
          have HLL2 := Lib.hid hlen
          have HE1 := Lib.hid (e1.trans d0)
          have HCAP := Lib.hid hcap
          clear D4 g3 hCB own hlen e1 e2 e3 d0 hcap HEQ
          go_wp2_with fail
          generalize w3.alloc (.cells #[.int .i64 w, .int .i64 h, .slice (some ⟨b, 0, none⟩) (w * h) cap, .int .i64 0, .int .i64 0] 28) = w4 at HD4 HG4 HCB ⊢
          refine (HKL.out w4).mono ?_
          rintro e w5 ⟨img, fault, l, ok, rfl, y, _, _, _, g5, ⟨_, rfl, ⟨g, rfl, hb⟩, rfl, _, _⟩ | ⟨z0, _⟩ | ⟨hno, _⟩⟩
          · obtain ⟨n, hn⟩ : ∃ n, w * h = n := ⟨_, rfl⟩
            have KP := fun u (hc : CB b z.l u) => rplain_calls b cap w h 0 0 z.l u hc HGD.out.1 (by rw [HLL2.out]; exact HN.out.1) (by rw [HLL2.out]; exact HN.out.2.1) (by rw [HLL2.out]; exact HCAP.out)
            rw [HLL2.out] at KP
            have hfull : rb z.l (w * h) = ⟨(pbs z.l).toArray⟩ := by rw [← HLL2.out]; exact rb_full z.l
            have hszS : (rb z.l (w * h)).size = 4 * (w * h) := rb_size z.l (w * h) (by rw [HLL2.out]; exact Nat.le_refl _)
            rw [hfull] at hb hszS
            obtain ⟨S, hS⟩ : ∃ S : ByteArray, (⟨(pbs z.l).toArray⟩ : ByteArray) = S := ⟨_, rfl⟩
            rw [hS] at KP hb hszS
            have KSM := fun u (g' c' : Nat) (h1 : Bx (some ⟨g, 0, none⟩) S u) (h2 : Bx (some ⟨g', 0, none⟩) S u) => rsame_calls (w : Int) (h : Int) (w : Int) (h : Int) (some ⟨g, 0, none⟩) (some ⟨g', 0, none⟩) (4 * (w * h)) c' S S u h1 h2
            simp only [sameB_self, hszS] at KSM
            rw [hn] at KP hszS ⊢
            simp only [hn] at KSM
            have HKP := Lib.hid KP
            have HKSM := Lib.hid KSM
            have gg := gb_trans (World.grownBy_alloc w5 (.cells #[.int .i64 w, .int .i64 h, .slice (some ⟨g, 0, none⟩) (4 * n) (4 * n)] 32) none) (World.grownBy_alloc _ (.cells #[.int .i64 0, .int .i64 0, .int .i64 0] 34) none)
            have D6 := ((gb_trans g5 gg).block _ (blk_lt HD4.out) (by simp)).trans HD4.out
            rw [hn] at D6
            have I6 : ((w5.alloc (.cells #[.int .i64 w, .int .i64 h, .slice (some ⟨g, 0, none⟩) (4 * n) (4 * n)] 32)).alloc (.cells #[.int .i64 0, .int .i64 0, .int .i64 0] 34)).heap[w5.heap.size]? = some (.cells #[.int .i64 w, .int .i64 h, .slice (some ⟨g, 0, none⟩) (4 * n) (4 * n)] 32 (0, 0)) := blk_al blk_at _
            have F6 : Fl (w5.heap.size + 1) 0 0 0 ((w5.alloc (.cells #[.int .i64 w, .int .i64 h, .slice (some ⟨g, 0, none⟩) (4 * n) (4 * n)] 32)).alloc (.cells #[.int .i64 0, .int .i64 0, .int .i64 0] 34)) := by
              rw [← size_alloc w5 (.cells #[.int .i64 w, .int .i64 h, .slice (some ⟨g, 0, none⟩) (4 * n) (4 * n)] 32)]
              exact Fl.new _
            have HX6 := Lib.hid ((bx_of hb).grown gg)
            have HC6 := Lib.hid (HCB.out.kept (gb_trans g5 gg) (by simp))
            have HG6 := Lib.hid (gb_trans (gb_trans HG4.out g5) gg)
            have HD6 := Lib.hid D6
            have HI6 := Lib.hid I6
            have HF6 := Lib.hid F6
            have p0 := F6.c0
            have p1 := F6.c1
            have p2 := F6.c2
            have i0 := blk_cell I6 0
            have i1 := blk_cell I6 1
            have i2 := blk_cell I6 2
            have d0 := blk_cell D6 0
            have d1 := blk_cell D6 1
            have d2 := blk_cell D6 2
            have d3 := blk_cell D6 3
            have d4 := blk_cell D6 4
            simp only [List.getElem?_toArray, List.getElem?_cons_succ, List.getElem?_cons_zero] at i0 i1 i2 d0 d1 d2 d3 d4
            have dlt := blk_lt D6
            have KAW := Lib.hid (fun u => awake14_calls u)
            clear D6 I6 F6 gg g5 HD4 HG4 HKL hb KP KSM hfull hszS hS HCB hn HLL2 HN HGD HE1 HCAP
            simp only [okF]
            go_wp2_with fail
            generalize (w5.alloc (.cells #[.int .i64 w, .int .i64 h, .slice (some ⟨g, 0, none⟩) (4 * n) (4 * n)] 32)).alloc (.cells #[.int .i64 0, .int .i64 0, .int .i64 0] 34) = w6 at HX6 HC6 HG6 HD6 HI6 HF6 p0 p1 p2 i0 i1 i2 d0 d1 d2 d3 d4 dlt ⊢
            go_region_held3 (fun w' => w'.cell? ⟨w5.heap.size + 1, 0, none⟩ = some (.int .i64 0) ∧ w'.cell? ⟨w5.heap.size + 1, 1, none⟩ = some (.int .i64 0) ∧ w'.cell? ⟨w5.heap.size + 1, 2, none⟩ = some (.int .i64 0) ∧ w'.cell? ⟨w5.heap.size, 0, none⟩ = some (.int .i64 w) ∧ w'.cell? ⟨w5.heap.size, 1, none⟩ = some (.int .i64 h) ∧ w'.cell? ⟨w5.heap.size, 2, none⟩ = some (.slice (some ⟨g, 0, none⟩) (4 * n) (4 * n)) ∧ w'.cell? ⟨w3.heap.size, 0, none⟩ = some (.int .i64 w) ∧ w'.cell? ⟨w3.heap.size, 1, none⟩ = some (.int .i64 h) ∧ w'.cell? ⟨w3.heap.size, 2, none⟩ = some (.slice (some ⟨b, 0, none⟩) n cap) ∧ w'.cell? ⟨w3.heap.size, 3, none⟩ = some (.int .i64 0) ∧ w'.cell? ⟨w3.heap.size, 4, none⟩ = some (.int .i64 0)) (go_keep)
              (first
                | (go_at_call 13; refine (HKP.out _ (HC6.out.kept (gb_drew w6 none) (by simp))).mono ?_; rintro e w7 ⟨g7, c7, rfl, X7, g7g⟩; have G7 := Lib.hid (gb_trans (gb_drew w6 none) g7g); have HX7 := Lib.hid X7; have B_ := (G7.out.block _ (blk_lt HF6.out) (by simp)).trans HF6.out; have ka0 : w7.cell? ⟨w5.heap.size + 1, 0, none⟩ = some (.int .i64 0) := blk_cell B_ 0; have ka1 : w7.cell? ⟨w5.heap.size + 1, 1, none⟩ = some (.int .i64 0) := blk_cell B_ 1; have ka2 : w7.cell? ⟨w5.heap.size + 1, 2, none⟩ = some (.int .i64 0) := blk_cell B_ 2; have I_ := (G7.out.block _ (blk_lt HI6.out) (by simp)).trans HI6.out; have ka3 : w7.cell? ⟨w5.heap.size, 0, none⟩ = some (.int .i64 w) := blk_cell I_ 0; have ka4 : w7.cell? ⟨w5.heap.size, 1, none⟩ = some (.int .i64 h) := blk_cell I_ 1; have ka5 : w7.cell? ⟨w5.heap.size, 2, none⟩ = some (.slice (some ⟨g, 0, none⟩) (4 * n) (4 * n)) := blk_cell I_ 2; have D_ := (G7.out.block _ (blk_lt HD6.out) (by simp)).trans HD6.out; have ka6 : w7.cell? ⟨w3.heap.size, 0, none⟩ = some (.int .i64 w) := blk_cell D_ 0; have ka7 : w7.cell? ⟨w3.heap.size, 1, none⟩ = some (.int .i64 h) := blk_cell D_ 1; have ka8 : w7.cell? ⟨w3.heap.size, 2, none⟩ = some (.slice (some ⟨b, 0, none⟩) n cap) := blk_cell D_ 2; have ka9 : w7.cell? ⟨w3.heap.size, 3, none⟩ = some (.int .i64 0) := blk_cell D_ 3; have ka10 : w7.cell? ⟨w3.heap.size, 4, none⟩ = some (.int .i64 0) := blk_cell D_ 4; clear B_ I_ D_; clear X7 g7g)
                | (go_at_call 12; refine (HKSM.out _ g7 c7 (HX6.out.grown G7.out) HX7.out).mono ?_; rintro e w8 ⟨rfl, g8⟩; have G8 := Lib.hid (gb_trans G7.out g8); have B_ := (G8.out.block _ (blk_lt HF6.out) (by simp)).trans HF6.out; have kb0 : w8.cell? ⟨w5.heap.size + 1, 0, none⟩ = some (.int .i64 0) := blk_cell B_ 0; have kb1 : w8.cell? ⟨w5.heap.size + 1, 1, none⟩ = some (.int .i64 0) := blk_cell B_ 1; have kb2 : w8.cell? ⟨w5.heap.size + 1, 2, none⟩ = some (.int .i64 0) := blk_cell B_ 2; have I_ := (G8.out.block _ (blk_lt HI6.out) (by simp)).trans HI6.out; have kb3 : w8.cell? ⟨w5.heap.size, 0, none⟩ = some (.int .i64 w) := blk_cell I_ 0; have kb4 : w8.cell? ⟨w5.heap.size, 1, none⟩ = some (.int .i64 h) := blk_cell I_ 1; have kb5 : w8.cell? ⟨w5.heap.size, 2, none⟩ = some (.slice (some ⟨g, 0, none⟩) (4 * n) (4 * n)) := blk_cell I_ 2; have D_ := (G8.out.block _ (blk_lt HD6.out) (by simp)).trans HD6.out; have kb6 : w8.cell? ⟨w3.heap.size, 0, none⟩ = some (.int .i64 w) := blk_cell D_ 0; have kb7 : w8.cell? ⟨w3.heap.size, 1, none⟩ = some (.int .i64 h) := blk_cell D_ 1; have kb8 : w8.cell? ⟨w3.heap.size, 2, none⟩ = some (.slice (some ⟨b, 0, none⟩) n cap) := blk_cell D_ 2; have kb9 : w8.cell? ⟨w3.heap.size, 3, none⟩ = some (.int .i64 0) := blk_cell D_ 3; have kb10 : w8.cell? ⟨w3.heap.size, 4, none⟩ = some (.int .i64 0) := blk_cell D_ 4; clear B_ I_ D_; clear g8)
                | (go_at_call 16; refine (KAW.out _).mono ?_; rintro e w9 ⟨rfl, g9⟩; have G9 := Lib.hid (gb_trans G8.out g9); have B_ := (G9.out.block _ (blk_lt HF6.out) (by simp)).trans HF6.out; have kc0 : w9.cell? ⟨w5.heap.size + 1, 0, none⟩ = some (.int .i64 0) := blk_cell B_ 0; have kc1 : w9.cell? ⟨w5.heap.size + 1, 1, none⟩ = some (.int .i64 0) := blk_cell B_ 1; have kc2 : w9.cell? ⟨w5.heap.size + 1, 2, none⟩ = some (.int .i64 0) := blk_cell B_ 2; have I_ := (G9.out.block _ (blk_lt HI6.out) (by simp)).trans HI6.out; have kc3 : w9.cell? ⟨w5.heap.size, 0, none⟩ = some (.int .i64 w) := blk_cell I_ 0; have kc4 : w9.cell? ⟨w5.heap.size, 1, none⟩ = some (.int .i64 h) := blk_cell I_ 1; have kc5 : w9.cell? ⟨w5.heap.size, 2, none⟩ = some (.slice (some ⟨g, 0, none⟩) (4 * n) (4 * n)) := blk_cell I_ 2; have D_ := (G9.out.block _ (blk_lt HD6.out) (by simp)).trans HD6.out; have kc6 : w9.cell? ⟨w3.heap.size, 0, none⟩ = some (.int .i64 w) := blk_cell D_ 0; have kc7 : w9.cell? ⟨w3.heap.size, 1, none⟩ = some (.int .i64 h) := blk_cell D_ 1; have kc8 : w9.cell? ⟨w3.heap.size, 2, none⟩ = some (.slice (some ⟨b, 0, none⟩) n cap) := blk_cell D_ 2; have kc9 : w9.cell? ⟨w3.heap.size, 3, none⟩ = some (.int .i64 0) := blk_cell D_ 3; have kc10 : w9.cell? ⟨w3.heap.size, 4, none⟩ = some (.int .i64 0) := blk_cell D_ 4; clear B_ I_ D_; clear g9))
            all_goals
              go_wp2
              go_ret
              exact ⟨rfl, gb_trans HG6.out G9.out⟩
          · exact absurd HE1.out z0
          · exfalso
            have h1 := HGD.out
            have h2 := HN.out
            have h3 := HLL.out
            omega
      · have hor : (k < 4) ∨ 100 < w ∨ 100 < h := by omega
        by_cases hkk : k < 4
        · have dk : decide ((k : Int) < 4) = true := decide_eq_true (by omega)
          clear hin hor hs hV hg
          go_enter Tryz.func5, Tryz.ntmps5
          go_wp2_with fail
          refine (KR.out _).mono ?_
          rintro e w1 ⟨rfl, g1⟩
          have HG1 := Lib.hid (gb_trans g1 (World.grownBy_alloc w1 (.cells #[.int .i64 k, .int .i64 w, .int .i64 h, .int .i64 m, .int .i64 a, .int .i64 0, .int .i64 0] 24) none))
          clear g1 KR
          simp only [hdA, show ((0 : Nat) : Int) = 0 from rfl]
          go_wp2_with fail
          refine (awake14_calls _).mono ?_
          rintro e w9 ⟨rfl, g9⟩
          have G9 := Lib.hid (gb_trans HG1.out g9)
          clear g9
          go_wp2
          go_ret
          exact ⟨rfl, G9.out⟩
        · have dk : decide ((k : Int) < 4) = false := decide_eq_false (by omega)
          by_cases hww : 100 < w
          · have dw : decide ((100 : Int) < (w : Int)) = true := decide_eq_true (by omega)
            clear hin hor hs hV hg hkk
            go_enter Tryz.func5, Tryz.ntmps5
            go_wp2_with fail
            refine (KR.out _).mono ?_
            rintro e w1 ⟨rfl, g1⟩
            have HG1 := Lib.hid (gb_trans g1 (World.grownBy_alloc w1 (.cells #[.int .i64 k, .int .i64 w, .int .i64 h, .int .i64 m, .int .i64 a, .int .i64 0, .int .i64 0] 24) none))
            clear g1 KR
            simp only [hdA, show ((0 : Nat) : Int) = 0 from rfl]
            go_wp2_with fail
            refine (awake14_calls _).mono ?_
            rintro e w9 ⟨rfl, g9⟩
            have G9 := Lib.hid (gb_trans HG1.out g9)
            clear g9
            go_wp2
            go_ret
            exact ⟨rfl, G9.out⟩
          · have dw : decide ((100 : Int) < (w : Int)) = false := decide_eq_false (by omega)
            have dh : decide ((100 : Int) < (h : Int)) = true := decide_eq_true (by omega)
            clear hin hor hs hV hg hkk
            go_enter Tryz.func5, Tryz.ntmps5
            go_wp2_with fail
            refine (KR.out _).mono ?_
            rintro e w1 ⟨rfl, g1⟩
            have HG1 := Lib.hid (gb_trans g1 (World.grownBy_alloc w1 (.cells #[.int .i64 k, .int .i64 w, .int .i64 h, .int .i64 m, .int .i64 a, .int .i64 0, .int .i64 0] 24) none))
            clear g1 KR
            simp only [hdA, show ((0 : Nat) : Int) = 0 from rfl]
            go_wp2_with fail
            refine (awake14_calls _).mono ?_
            rintro e w9 ⟨rfl, g9⟩
            have G9 := Lib.hid (gb_trans HG1.out g9)
            clear g9
            go_wp2
            go_ret
            exact ⟨rfl, G9.out⟩
    · rw [hV] at KR
      have KR := Lib.hid KR
      have df : ((f : Int) != 0) = true := by rw [bne_iff_ne]; omega
      clear hs hV
      go_enter Tryz.func5, Tryz.ntmps5
      go_wp2_with fail
      refine (KR.out _).mono ?_
      rintro e w1 ⟨rfl, g1⟩
      have HG1 := Lib.hid (gb_trans g1 (World.grownBy_alloc w1 (.cells #[.int .i64 0, .int .i64 0, .int .i64 0, .int .i64 0, .int .i64 0, .int .i64 f, .int .i64 p] 24) none))
      clear g1 KR
      simp only [hdA, show ((0 : Nat) : Int) = 0 from rfl]
      go_wp2_with fail
      refine (awake14_calls _).mono ?_
      rintro e w9 ⟨rfl, g9⟩
      have G9 := Lib.hid (gb_trans HG1.out g9)
      clear g9
      go_wp2
      go_ret
      exact ⟨rfl, G9.out⟩
  · have dlen : decide ((600 : Int) < (s.size : Int)) = true := decide_eq_true (by omega)
    clear hs
    go_enter Tryz.func5, Tryz.ntmps5
    go_wp2_with fail
    refine (awake14_calls _).mono ?_
    rintro e w9 ⟨rfl, g9⟩
    have G9 := Lib.hid g9
    clear g9
    go_wp2
    go_ret
    exact ⟨rfl, G9.out⟩

end Go.Proofs.YtcfdippcobkbaaaGreat.Px
