/- Texts of one kind, one behind the other: Aw13, Aw14, Stp1, Pla1. -/
import Derived.Deep.LoopGhost
import Derived.Deep.RegionHeld3
import Derived.Test.YtcfdippcobkbaaaGreatG19
import Derived.Test.YtcfdippcobkbaaaGreatG20
import Derived.Test.YtcfdippcobkbaaaGreatG21
import Derived.Test.YtcfdippcobkbaaaGreatG22
import Derived.Test.YtcfdippcobkbaaaGreatG23
import Derived.Test.YtcfdippcobkbaaaGreatG25
/- The law of layer 13: the chapter's example. -/
namespace Go.Proofs.YtcfdippcobkbaaaGreat.Px
open Go.ChangeShapes Go.WideShapes Go.ChangeAt Go.RowKit
open Go.Proofs.YtcfdippcobkbaaaGreat.Le Go.Proofs.YtcfdippcobkbaaaGreat.Tk Go.Proofs.YtcfdippcobkbaaaGreat.Sc Go.Proofs.YtcfdippcobkbaaaGreat.Sr Go.Proofs.YtcfdippcobkbaaaGreat.Ph Go.Proofs.YtcfdippcobkbaaaGreat.Ra
set_option linter.unusedVariables false

/-- A block of bytes as a text. -/
theorem by_of {g : Nat} {S : ByteArray} {w : World} (h : w.heap[g]? = some (.cells (Bu.bys S) 5 (0, 0))) : Lib.Bytes w g 0 S := fun i hi => by
  rw [Nat.zero_add]
  exact (blk_cell h i).trans (Bu.bys_at S i hi)
theorem bx_of {g : Nat} {S : ByteArray} {w : World} (h : w.heap[g]? = some (.cells (Bu.bys S) 5 (0, 0))) : Bx (some ⟨g, 0, none⟩) S w := .inr ⟨g, 0, rfl, by_of h⟩

set_option maxRecDepth 100000 in
set_option maxHeartbeats 4000000 in
theorem awake13_calls (W : World) : Calls Tryz.prog 8 #[] W fun e w' => e = .returned (.bool true) ∧ W.grownBy w' none := by
  have HS := Lib.hid (show exT = ⟨#[80, 49, 10, 50, 32, 49, 10, 49, 32, 48, 10]⟩ from rfl)
  have KR := Lib.hid (lread13_calls exT 1 2 1 1 6 1000 W (by decide) exT_head (by refine ⟨?_, ?_, ?_, ?_, ?_, ?_, ?_, ?_, ?_⟩ <;> decide) (by decide) (by decide) (by decide) (by decide) (by decide))
  go_enter Tryz.func8, Tryz.ntmps8
  go_wp2_with fail
  rw [← HS.out]
  refine KR.out.mono ?_
  rintro e w1 ⟨img, fault, l, ok, rfl, y, L1, ok1, hs1, g1, ⟨_, rfl, ⟨g, rfl, hb⟩, rfl, hr1, ht1⟩ | ⟨hz, _⟩ | ⟨hno, _⟩⟩
  · rw [exT_px.2.1] at hb
    have g2 := gb_trans (World.grownBy_alloc w1 (.cells #[.int .i64 2, .int .i64 1, .slice (some ⟨g, 0, none⟩) 8 8] 32) none) (World.grownBy_alloc _ (.cells #[.int .i64 0, .int .i64 0, .int .i64 0] 34) none)
    have hb2 := blk_al (blk_al hb (.cells #[.int .i64 2, .int .i64 1, .slice (some ⟨g, 0, none⟩) 8 8] 32)) (.cells #[.int .i64 0, .int .i64 0, .int .i64 0] 34)
    have hc := conv_bx (bx_of hb2) 8
    have hsz : (rb [(0, 0, 0), (255, 255, 255)] (2 * 1)).size = 8 := by kernel_rfl
    have hd : rb [(0, 0, 0), (255, 255, 255)] (2 * 1) = ⟨#[0, 0, 0, 255, 255, 255, 255, 255]⟩ := by kernel_rfl
    rw [hsz, hd] at hc
    have G := Lib.hid (gb_trans g1 g2)
    clear g1 g2 hb hb2 L1 ok1 KR hsz hd
    simp only [okF, show ((2 : Nat) : Int) = 2 from rfl, show ((1 : Nat) : Int) = 1 from rfl, show 4 * (2 * 1) = 8 from rfl]
    go_wp2
    go_ret
    exact ⟨rfl, G.out⟩
  · exact absurd exT_px.1 hz
  · exfalso
    have h1 := exT_n
    have h2 := exT_px.2.1
    have h3 := exT_px.2.2
    have h4 : (pxs exT 1 1 6 (2 * 1)).l.length = 2 := by
      show (pxs exT 1 1 6 2).l.length = 2
      rw [h2]
      rfl
    have h5 : (pxs exT 1 1 6 (2 * 1)).n = 6 := h3
    rw [h4, h5] at hno
    omega

end Go.Proofs.YtcfdippcobkbaaaGreat.Px

/- The law of layer 14: the chapter's example. -/
namespace Go.Proofs.YtcfdippcobkbaaaGreat.Px
open Go.ChangeShapes Go.WideShapes Go.ChangeAt Go.RowKit
open Go.Proofs.YtcfdippcobkbaaaGreat.Le Go.Proofs.YtcfdippcobkbaaaGreat.Tk Go.Proofs.YtcfdippcobkbaaaGreat.Sc Go.Proofs.YtcfdippcobkbaaaGreat.Sr Go.Proofs.YtcfdippcobkbaaaGreat.Ph Go.Proofs.YtcfdippcobkbaaaGreat.Ra
set_option linter.unusedVariables false

def exL : List (Nat × Nat × Nat) := [(0, 0, 0), (255, 255, 255), (255, 255, 255), (255, 255, 255), (255, 255, 255), (255, 255, 255), (255, 255, 255), (255, 255, 255), (0, 0, 0)]
set_option maxRecDepth 100000 in
set_option maxHeartbeats 4000000 in
theorem awake14_calls (W : World) : Calls Tryz.prog 16 #[] W fun e w' => e = .returned (.bool true) ∧ W.grownBy w' none := by
  have HS := Lib.hid (show exW = ⟨#[80, 52, 10, 57, 32, 49, 10, 128, 128]⟩ from rfl)
  have KR := Lib.hid (lread14_calls exW 4 9 1 1 7 1000 W (by decide) exW_head (by refine ⟨?_, ?_, ?_, ?_, ?_, ?_, ?_, ?_, ?_⟩ <;> decide) (by decide) (by decide) (by decide) (by decide) (by decide))
  have KP : ∀ (x : Nat) (u : World) (g : Nat), x < 9 → u.heap[g]? = some (.cells (Bu.bys (rb exL 9)) 5 (0, 0)) → Calls Tryz.prog 43 #[.agg #[.int .i64 9, .int .i64 1, .slice (some ⟨g, 0, none⟩) 36 36], .int .i64 x, .int .i64 0] u
      fun e w' => e = .returned (.tuple #[.agg #[.int .u8 (Ra.bt (rb exL 9) (4 * x)), .int .u8 (Ra.bt (rb exL 9) (4 * x + 1)), .int .u8 (Ra.bt (rb exL 9) (4 * x + 2)), .int .u8 (Ra.bt (rb exL 9) (4 * x + 3))], .bool true]) ∧ u.grownBy w' none := by
    intro x u g hx hb
    have hsz : (rb exL 9).size = 36 := by kernel_rfl
    have K := ipixel_yes 9 1 x 0 x g 0 36 (rb exL 9) u hx (by decide) (by decide) (by decide) (by omega) (by rw [hsz]; decide) (by rw [hsz]) (by rw [hsz]; decide) (by decide) (by_of hb) (by rw [hsz]; decide)
    rw [hsz] at K
    exact K
  have K8 := fun u g => KP 8 u g (by decide)
  have K1 := fun u g => KP 1 u g (by decide)
  simp only [show Ra.bt (rb exL 9) (4 * 8) = 0 from by kernel_rfl, show Ra.bt (rb exL 9) (4 * 8 + 1) = 0 from by kernel_rfl, show Ra.bt (rb exL 9) (4 * 8 + 2) = 0 from by kernel_rfl, show Ra.bt (rb exL 9) (4 * 8 + 3) = 255 from by kernel_rfl] at K8
  simp only [show Ra.bt (rb exL 9) (4 * 1) = 255 from by kernel_rfl, show Ra.bt (rb exL 9) (4 * 1 + 1) = 255 from by kernel_rfl, show Ra.bt (rb exL 9) (4 * 1 + 2) = 255 from by kernel_rfl, show Ra.bt (rb exL 9) (4 * 1 + 3) = 255 from by kernel_rfl] at K1
  simp only [show ((8 : Nat) : Int) = 8 from rfl] at K8
  simp only [show ((1 : Nat) : Int) = 1 from rfl] at K1
  have HK8 := Lib.hid K8
  have HK1 := Lib.hid K1
  clear KP K8 K1
  go_enter Tryz.func16, Tryz.ntmps16
  go_wp2_with fail
  rw [← HS.out]
  refine KR.out.mono ?_
  rintro e w1 ⟨img, fault, l, ok, rfl, y, L1, ok1, hs1, g1, ⟨_, rfl, ⟨g, rfl, hb⟩, rfl, hr1, ht1⟩ | ⟨hz, _⟩ | ⟨hno, _⟩⟩
  · rw [show rawZ exW 4 1 9 7 (9 * 1) = rawZ exW 4 1 9 7 9 from rfl, exW_px.2.1] at hb
    have hb1 : w1.heap[g]? = some (.cells (Bu.bys (rb exL 9)) 5 (0, 0)) := hb
    have I2 : ((w1.alloc (.cells #[.int .i64 9, .int .i64 1, .slice (some ⟨g, 0, none⟩) 36 36] 32)).alloc (.cells #[.int .i64 0, .int .i64 0, .int .i64 0] 34)).heap[w1.heap.size]? = some (.cells #[.int .i64 9, .int .i64 1, .slice (some ⟨g, 0, none⟩) 36 36] 32 (0, 0)) := blk_al blk_at _
    have F2 : Fl (w1.heap.size + 1) 0 0 0 ((w1.alloc (.cells #[.int .i64 9, .int .i64 1, .slice (some ⟨g, 0, none⟩) 36 36] 32)).alloc (.cells #[.int .i64 0, .int .i64 0, .int .i64 0] 34)) := by
      rw [← size_alloc w1 (.cells #[.int .i64 9, .int .i64 1, .slice (some ⟨g, 0, none⟩) 36 36] 32)]
      exact Fl.new _
    have hb2 := blk_al (blk_al hb1 (.cells #[.int .i64 9, .int .i64 1, .slice (some ⟨g, 0, none⟩) 36 36] 32)) (.cells #[.int .i64 0, .int .i64 0, .int .i64 0] 34)
    have g2 := gb_trans g1 (gb_trans (World.grownBy_alloc w1 (.cells #[.int .i64 9, .int .i64 1, .slice (some ⟨g, 0, none⟩) 36 36] 32) none) (World.grownBy_alloc _ (.cells #[.int .i64 0, .int .i64 0, .int .i64 0] 34) none))
    have HB2 := Lib.hid hb2
    have HI2 := Lib.hid I2
    have HF2 := Lib.hid F2
    have HG2 := Lib.hid g2
    clear hb hb1 hb2 I2 F2 g1 g2 L1 ok1 KR
    simp only [okF, show ((9 : Nat) : Int) = 9 from rfl, show ((1 : Nat) : Int) = 1 from rfl, show 4 * (9 * 1) = 36 from rfl]
    go_wp2_with fail
    generalize (w1.alloc (.cells #[.int .i64 9, .int .i64 1, .slice (some ⟨g, 0, none⟩) 36 36] 32)).alloc (.cells #[.int .i64 0, .int .i64 0, .int .i64 0] 34) = w2 at HB2 HI2 HF2 HG2 ⊢
    refine (HK8.out _ g HB2.out).mono ?_
    rintro e w3 ⟨rfl, g3⟩
    have gg := gb_trans g3 (World.grownBy_alloc w3 (.cells #[.int .u8 0, .int .u8 0, .int .u8 0, .int .u8 255] 60) none)
    have HB3 := Lib.hid ((gg.block _ (blk_lt HB2.out) (by simp)).trans HB2.out)
    have I3 := (gg.block _ (blk_lt HI2.out) (by simp)).trans HI2.out
    have HF3 := Lib.hid ((gg.block _ (blk_lt HF2.out) (by simp)).trans HF2.out)
    have HG3 := Lib.hid (gb_trans HG2.out gg)
    have C3 : (w3.alloc (.cells #[.int .u8 0, .int .u8 0, .int .u8 0, .int .u8 255] 60)).heap[w3.heap.size]? = some (.cells #[.int .u8 0, .int .u8 0, .int .u8 0, .int .u8 255] 60 (0, 0)) := blk_at
    have HC3 := Lib.hid C3
    have HI3 := Lib.hid I3
    have i0 := blk_cell I3 0
    have i1 := blk_cell I3 1
    have i2 := blk_cell I3 2
    simp only [List.getElem?_toArray, List.getElem?_cons_succ, List.getElem?_cons_zero] at i0 i1 i2
    have ilt := blk_lt I3
    clear I3 gg g3 C3 HB2 HF2 HI2 HG2
    go_wp2_with fail
    generalize w3.alloc (.cells #[.int .u8 0, .int .u8 0, .int .u8 0, .int .u8 255] 60) = w4 at HB3 HF3 HG3 HC3 HI3 ⊢
    clear i0 i1 i2 ilt
    refine (HK1.out _ g HB3.out).mono ?_
    rintro e w5 ⟨rfl, g5⟩
    have F5 : Fl (w1.heap.size + 1) 0 0 0 w5 := (g5.block _ (blk_lt HF3.out) (by simp)).trans HF3.out
    have C5 := (g5.block _ (blk_lt HC3.out) (by simp)).trans HC3.out
    have q0 := F5.c0
    have q1 := F5.c1
    have q2 := F5.c2
    have c0 := blk_cell C5 0
    have c1 := blk_cell C5 1
    have c2 := blk_cell C5 2
    have c3 := blk_cell C5 3
    simp only [List.getElem?_toArray, List.getElem?_cons_succ, List.getElem?_cons_zero] at c0 c1 c2 c3
    have flt := F5.lt
    have clt := blk_lt C5
    have HG5 := Lib.hid (gb_trans HG3.out g5)
    clear F5 C5 g5
    go_wp2
    go_ret
    exact ⟨rfl, gb_trans HG5.out (World.grownBy_alloc _ _ _)⟩
  · exact absurd exW_px.1 hz
  · exfalso
    have h1 := readN_le exW
    have h0 : exW.size = 9 := rfl
    have h2 := exW_px.2.1
    have h3 := exW_px.2.2
    have h4 : (rawZ exW 4 1 9 7 (9 * 1)).l.length = 9 := by
      show (rawZ exW 4 1 9 7 9).l.length = 9
      rw [h2]
      rfl
    have h5 : (rawZ exW 4 1 9 7 (9 * 1)).n = 2 := h3
    rw [h4, h5] at hno
    omega

end Go.Proofs.YtcfdippcobkbaaaGreat.Px

/- The law of layer 14: how many steps a reading takes, walked (written by wip/gen/stp1.py). -/
namespace Go.Proofs.YtcfdippcobkbaaaGreat.Px
open Go.ChangeShapes Go.WideShapes Go.ChangeAt Go.RowKit
open Go.Proofs.YtcfdippcobkbaaaGreat.Le Go.Proofs.YtcfdippcobkbaaaGreat.Tk Go.Proofs.YtcfdippcobkbaaaGreat.Sc Go.Proofs.YtcfdippcobkbaaaGreat.Sr Go.Proofs.YtcfdippcobkbaaaGreat.Ph Go.Proofs.YtcfdippcobkbaaaGreat.Ra
set_option linter.unusedVariables false

set_option maxRecDepth 100000 in
set_option maxHeartbeats 8000000 in
theorem steps_any (s : ByteArray) (W : World) (hs : s.size ≤ 9223372036854775807) : Calls Tryz.prog 6 #[.string s] W fun e w' => e = .returned (.bool true) ∧ W.grownBy w' none := by
  by_cases hlen : s.size ≤ 600
  · have dlen : decide ((600 : Int) < (s.size : Int)) = false := decide_eq_false (by omega)
    have KR := fun u => rread_calls s u (by omega)
    rcases readV_gd s with ⟨k, w, h, m, a, hV, hg⟩ | ⟨f, p, hV, f0, f4, hp⟩
    · rw [hV] at KR
      have KR := Lib.hid KR
      by_cases hin : (4 ≤ k) ∧ w ≤ 100 ∧ h ≤ 100
      · obtain ⟨hk, hw, hh⟩ := hin
        have dk : decide ((k : Int) < 4) = false := decide_eq_false (by omega)
        have dw : decide ((100 : Int) < (w : Int)) = false := decide_eq_false (by omega)
        have dh : decide ((100 : Int) < (h : Int)) = false := decide_eq_false (by omega)
        have HS := Lib.hid (show s.size ≤ 9223372036854775806 by omega)
        have HLEN := Lib.hid hlen
        have HV := Lib.hid hV
        have HG := Lib.hid hg
        have HK := Lib.hid hk
        clear hs hlen hV hg hk
        go_enter Tryz.func6, Tryz.ntmps6
        go_wp2_with fail
        refine (KR.out _).mono ?_
        rintro e w1 ⟨rfl, g1⟩
        have B1 : (w1.alloc (.cells #[.int .i64 k, .int .i64 w, .int .i64 h, .int .i64 m, .int .i64 a, .int .i64 0, .int .i64 0] 24)).heap[w1.heap.size]? = _ := blk_at
        have HB1 := Lib.hid B1
        have HG1 := Lib.hid (gb_trans g1 (World.grownBy_alloc w1 (.cells #[.int .i64 k, .int .i64 w, .int .i64 h, .int .i64 m, .int .i64 a, .int .i64 0, .int .i64 0] 24) none))
        clear B1 g1 KR
        simp only [hdA, show ((0 : Nat) : Int) = 0 from rfl]
        go_wp2_with fail
        generalize w1.alloc (.cells #[.int .i64 k, .int .i64 w, .int .i64 h, .int .i64 m, .int .i64 a, .int .i64 0, .int .i64 0] 24) = w2 at HB1 HG1 ⊢
        have hk6 := HG.out.k6
        have hz := rawZ_gd s k m w a (w * h) HG.out.le HG.out.m1
        have KL := lread14_calls s k w h m a 100000 w2 HS.out HV.out HG.out HK.out hw hh (by decide) (by decide)
        obtain ⟨Z, hZ⟩ : ∃ Z, rawZ s k m w a (w * h) = Z := ⟨_, rfl⟩
        rw [hZ] at KL hz
        have hN : w * h ≤ 10000 := Nat.le_trans (Nat.mul_le_mul hw hh) (by decide)
        have hn0 := readN_le s
        have key : ∀ (e : Ending) (w' : World) (img fault : Value) (l : Nat) (ok : Bool), Rn w2 s 100000 (readN s) w h Z img fault l ok w' → ok = true ∧ (∃ y : St, Led l y.ls w' ∧ y.r = 0 ∧ y.st ≤ 4 * (w : Int) * (h : Int) + 2 * (s.size : Int) + 20) ∧ w2.grownBy w' none ∧ (∃ (i0 i1 : Int) (i2 : Option Addr) (i3 i4 : Nat), img = .agg #[.int .i64 i0, .int .i64 i1, .slice i2 i3 i4] ∧ ∃ f0 f1 f2 : Int, fault = .agg #[.int .i64 f0, .int .i64 f1, .int .i64 f2]) := by
          rintro e w' img fault l ok ⟨y, L, _, hs1, g, ⟨z0, rfl, ⟨gg, rfl, _⟩, rfl, hr, ht⟩ | ⟨z0, rfl, rfl, rfl, hr, ht⟩ | ⟨hno, _⟩⟩
          · refine ⟨rfl, ⟨y, L, hr, ?_⟩, g, _, _, _, _, _, rfl, _, _, _, rfl⟩
            have e4 : 4 * (w : Int) * (h : Int) = ((4 * (w * h) : Nat) : Int) := by rw [Int.mul_assoc]; push_cast; rfl
            rw [e4, ht]
            have := HLEN.out
            omega
          · refine ⟨rfl, ⟨y, L, hr, ?_⟩, g, _, _, _, _, _, rfl, _, _, _, rfl⟩
            have e4 : 4 * (w : Int) * (h : Int) = ((4 * (w * h) : Nat) : Int) := by rw [Int.mul_assoc]; push_cast; rfl
            rw [e4, ht]
            have := HLEN.out
            omega
          · exfalso
            have := HLEN.out
            omega
        have HKEY := Lib.hid key
        have KL2 := Lib.hid KL
        obtain ⟨u4, hu4⟩ : ∃ u : Int, 4 * (w : Int) = u := ⟨_, rfl⟩
        obtain ⟨pr, hpr⟩ : ∃ u : Int, u4 * (h : Int) = u := ⟨_, rfl⟩
        have hpr0 : 0 ≤ pr ∧ pr ≤ 40000 := by
          rw [← hpr, ← hu4]
          have e4 : 4 * (w : Int) * (h : Int) = ((4 * (w * h) : Nat) : Int) := by rw [Int.mul_assoc]; push_cast; rfl
          rw [e4]
          omega
        have hw4 : IntKind.i64.wrap u4 = u4 := by rw [IntKind.wrap_i64]; omega
        have hwp : IntKind.i64.wrap pr = pr := by rw [IntKind.wrap_i64]; omega
        have h6 := HLEN.out
        have hw2 : IntKind.i64.wrap (2 * (s.size : Int)) = 2 * (s.size : Int) := by rw [IntKind.wrap_i64]; omega
        have hws : IntKind.i64.wrap (pr + 2 * (s.size : Int)) = pr + 2 * (s.size : Int) := by rw [IntKind.wrap_i64]; omega
        have hwt : IntKind.i64.wrap (pr + 2 * (s.size : Int) + 20) = pr + 2 * (s.size : Int) + 20 := by rw [IntKind.wrap_i64]; omega
        clear KL key hz hZ hn0 hN hk6
        refine KL2.out.mono ?_
        rintro e w3 ⟨img, fault, l, ok, rfl, H⟩
        obtain ⟨rfl, ⟨y, L, hr, ht⟩, g3, i0, i1, i2, i3, i4, rfl, f0, f1, f2, rfl⟩ := HKEY.out (.returned (.tuple #[img, fault, .pointer (some ⟨l, 0, none⟩), .bool ok])) w3 img fault l ok H
        rw [hu4, hpr] at ht
        have dst : decide (y.st ≤ pr + 2 * (s.size : Int) + 20) = true := decide_eq_true ht
        have gg := gb_trans (World.grownBy_alloc w3 (.cells #[.int .i64 i0, .int .i64 i1, .slice i2 i3 i4] 32) none) (World.grownBy_alloc _ (.cells #[.int .i64 f0, .int .i64 f1, .int .i64 f2] 34) none)
        have B3 := ((gb_trans g3 gg).block _ (blk_lt HB1.out) (by simp)).trans HB1.out
        have L3 := L.grown gg (by simp)
        have c1 := blk_cell B3 1
        have c2 := blk_cell B3 2
        simp only [List.getElem?_toArray, List.getElem?_cons_succ, List.getElem?_cons_zero] at c1 c2
        have HL3 := Lib.hid L3
        have HB3 := Lib.hid B3
        have HG3 := Lib.hid (gb_trans (gb_trans HG1.out g3) gg)
        have HY := Lib.hid hr
        clear H L g3 gg B3 L3 hr ht HB1 HG1 HKEY KL2
        go_wp2_with fail
        generalize (w3.alloc (.cells #[.int .i64 i0, .int .i64 i1, .slice i2 i3 i4] 32)).alloc (.cells #[.int .i64 f0, .int .i64 f1, .int .i64 f2] 34) = w5 at c1 c2 HL3 HB3 HG3 ⊢
        have KB : ∀ u, Led l y.ls u → Calls Tryz.prog 15 #[.pointer (some ⟨l, 0, none⟩)] u fun e w' => e = .returned (.bool false) ∧ u = w' := fun u L => (broken_calls l y.ls u L).mono (fun e w' ⟨he, hw⟩ => ⟨by rw [he]; unfold St.ls; simp [HY.out], hw⟩)
        have KS : ∀ u, Led l y.ls u → Calls Tryz.prog 14 #[.pointer (some ⟨l, 0, none⟩)] u fun e w' => e = .returned (.int .i64 y.st) ∧ u = w' := fun u L => steps_calls l y.ls u L
        have HKB := Lib.hid KB
        have HKS := Lib.hid KS
        have KAW := Lib.hid (fun u => awake14_calls u)
        clear KB KS
        go_region_held3 (fun w' => w'.cell? ⟨w1.heap.size, 1, none⟩ = some (.int .i64 w) ∧ w'.cell? ⟨w1.heap.size, 2, none⟩ = some (.int .i64 h)) (go_keep)
          (first
            | (go_at_call 15; refine (HKB.out _ HL3.out.drew).mono ?_; rintro e w' ⟨rfl, rfl⟩)
            | (go_at_call 14; refine (HKS.out _ HL3.out.drew).mono ?_; rintro e w' ⟨rfl, rfl⟩)
            | (go_at_call 16; refine (KAW.out _).mono ?_; rintro e w9 ⟨rfl, g9⟩; have G9 := Lib.hid (gb_trans (gb_trans HG3.out (gb_drew w5 none)) g9); have kk0 : w9.cell? ⟨w1.heap.size, 1, none⟩ = some (.int .i64 w) := blk_cell ((gb_trans (gb_drew w5 none) g9).block _ (blk_lt HB3.out) (by simp) |>.trans HB3.out) 1; have kk1 : w9.cell? ⟨w1.heap.size, 2, none⟩ = some (.int .i64 h) := blk_cell ((gb_trans (gb_drew w5 none) g9).block _ (blk_lt HB3.out) (by simp) |>.trans HB3.out) 2))
        all_goals
          go_wp2
          go_ret
          exact ⟨rfl, G9.out⟩
      · have hor : (k < 4) ∨ 100 < w ∨ 100 < h := by omega
        by_cases hkk : k < 4
        · have dk : decide ((k : Int) < 4) = true := decide_eq_true (by omega)
          clear hin hor hs hV hg
          go_enter Tryz.func6, Tryz.ntmps6
          go_wp2_with fail
          refine (KR.out _).mono ?_
          rintro e w1 ⟨rfl, g1⟩
          have HG1 := Lib.hid (gb_trans g1 (World.grownBy_alloc w1 (.cells #[.int .i64 k, .int .i64 w, .int .i64 h, .int .i64 m, .int .i64 a, .int .i64 0, .int .i64 0] 24) none))
          clear g1 KR
          simp only [hdA, show ((0 : Nat) : Int) = 0 from rfl]
          go_wp2_with fail
          refine (awake14_calls _).mono ?_
          rintro e w9 ⟨rfl, g9⟩
          have G9 := Lib.hid (gb_trans HG1.out g9)
          clear g9
          go_wp2
          go_ret
          exact ⟨rfl, G9.out⟩
        · have dk : decide ((k : Int) < 4) = false := decide_eq_false (by omega)
          by_cases hww : 100 < w
          · have dw : decide ((100 : Int) < (w : Int)) = true := decide_eq_true (by omega)
            clear hin hor hs hV hg hkk
            go_enter Tryz.func6, Tryz.ntmps6
            go_wp2_with fail
            refine (KR.out _).mono ?_
            rintro e w1 ⟨rfl, g1⟩
            have HG1 := Lib.hid (gb_trans g1 (World.grownBy_alloc w1 (.cells #[.int .i64 k, .int .i64 w, .int .i64 h, .int .i64 m, .int .i64 a, .int .i64 0, .int .i64 0] 24) none))
            clear g1 KR
            simp only [hdA, show ((0 : Nat) : Int) = 0 from rfl]
            go_wp2_with fail
            refine (awake14_calls _).mono ?_
            rintro e w9 ⟨rfl, g9⟩
            have G9 := Lib.hid (gb_trans HG1.out g9)
            clear g9
            go_wp2
            go_ret
            exact ⟨rfl, G9.out⟩
          · have dw : decide ((100 : Int) < (w : Int)) = false := decide_eq_false (by omega)
            have dh : decide ((100 : Int) < (h : Int)) = true := decide_eq_true (by omega)
            clear hin hor hs hV hg hkk
            go_enter Tryz.func6, Tryz.ntmps6
            go_wp2_with fail
            refine (KR.out _).mono ?_
            rintro e w1 ⟨rfl, g1⟩
            have HG1 := Lib.hid (gb_trans g1 (World.grownBy_alloc w1 (.cells #[.int .i64 k, .int .i64 w, .int .i64 h, .int .i64 m, .int .i64 a, .int .i64 0, .int .i64 0] 24) none))
            clear g1 KR
            simp only [hdA, show ((0 : Nat) : Int) = 0 from rfl]
            go_wp2_with fail
            refine (awake14_calls _).mono ?_
            rintro e w9 ⟨rfl, g9⟩
            have G9 := Lib.hid (gb_trans HG1.out g9)
            clear g9
            go_wp2
            go_ret
            exact ⟨rfl, G9.out⟩
    · rw [hV] at KR
      have KR := Lib.hid KR
      have df : ((f : Int) != 0) = true := by rw [bne_iff_ne]; omega
      clear hs hV
      go_enter Tryz.func6, Tryz.ntmps6
      go_wp2_with fail
      refine (KR.out _).mono ?_
      rintro e w1 ⟨rfl, g1⟩
      have HG1 := Lib.hid (gb_trans g1 (World.grownBy_alloc w1 (.cells #[.int .i64 0, .int .i64 0, .int .i64 0, .int .i64 0, .int .i64 0, .int .i64 f, .int .i64 p] 24) none))
      clear g1 KR
      simp only [hdA, show ((0 : Nat) : Int) = 0 from rfl]
      go_wp2_with fail
      refine (awake14_calls _).mono ?_
      rintro e w9 ⟨rfl, g9⟩
      have G9 := Lib.hid (gb_trans HG1.out g9)
      clear g9
      go_wp2
      go_ret
      exact ⟨rfl, G9.out⟩
  · have dlen : decide ((600 : Int) < (s.size : Int)) = true := decide_eq_true (by omega)
    clear hs
    go_enter Tryz.func6, Tryz.ntmps6
    go_wp2_with fail
    refine (awake14_calls _).mono ?_
    rintro e w9 ⟨rfl, g9⟩
    have G9 := Lib.hid g9
    clear g9
    go_wp2
    go_ret
    exact ⟨rfl, G9.out⟩

end Go.Proofs.YtcfdippcobkbaaaGreat.Px

/- The document's Plain: a list of pixels as an image's bytes. -/
namespace Go.Proofs.YtcfdippcobkbaaaGreat.Px
open Go.ChangeShapes Go.WideShapes Go.ChangeAt Go.RowKit
open Go.Proofs.YtcfdippcobkbaaaGreat.Le Go.Proofs.YtcfdippcobkbaaaGreat.Tk Go.Proofs.YtcfdippcobkbaaaGreat.Sc Go.Proofs.YtcfdippcobkbaaaGreat.Sr Go.Proofs.YtcfdippcobkbaaaGreat.Ph Go.Proofs.YtcfdippcobkbaaaGreat.Ra
set_option linter.unusedVariables false

/-- Four bytes of a pixel's own. -/
def b4 (x : Nat × Nat × Nat) : Obj := .cells #[.int .u8 (x.1 : Int), .int .u8 (x.2.1 : Int), .int .u8 (x.2.2 : Int), .int .u8 255] 5
/-- Four bytes are put behind a row: a step of a region that draws its order. -/
theorem by4_step {ops : Array Oper} {o : Oper} {a : Act} {K : Act → World → Prop} {Q : Exit → Act → World → Prop} {E : Prop} {s x : Operand} {B i : Nat} {L : Value} {xs : List Value} {w5 : World} (c : Nat × Nat × Nat)
    (hown : w5.ownsRow B 5 1 L i xs) (hi : i < 1000000) (hB : B ≤ w5.heap.size)
    (hgd : o.guard = none) (ho : o.op = .call { callee := .builtin .append, args := #[s, x], argTypes := #[30, 30] }) (hs : a.eval s = L) (hx : a.eval x = .slice (some ⟨w5.heap.size, 0, none⟩) 4 4)
    (h : ∀ g cap w', w'.ownsRow B 5 1 (.slice (some ⟨g, 0, none⟩) (i + 4) cap) (i + 4) (xs ++ pc c) → (w5.alloc (b4 c)).grownBy w' L.ownBlock → K (a.put o.dst (.slice (some ⟨g, 0, none⟩) (i + 4) cap)) w') :
    if Region.wanted o (yielded ops a.tmps) = true then Oper.wp Tryz.prog o a (w5.alloc (b4 c)) K Q else E := by
  obtain ⟨i0, hi0, hz0, hz1, hz2⟩ := info_parts Bu.row8
  refine step_append_lies (w5.alloc (b4 c)) hgd s x 30 ho B 5 i0 _ 1 1 (by kernel_rfl) hi0 hz0 hz1 hz2 rfl (by decide) L i xs hs (hown.alloc _) ⟨w5.heap.size, 0, none⟩ 4 4 (pc c) hx rfl ?_ (pc_one c) (by decide) (by unfold maxLen; omega) (by omega)
    (by rw [size_alloc]; omega) (w5.heap.size + 1) (size_alloc _ _) (fun g cap w' h1 h2 _ _ => h g cap w' h1 h2)
  exact World.news_of_block (cs := #[.int .u8 (c.1 : Int), .int .u8 (c.2.1 : Int), .int .u8 (c.2.2 : Int), .int .u8 255]) (t := 5) (fr := (0, 0)) (heap_alloc_new w5 _)

/-- The pixels l lie in block b. -/
def CB (b : Nat) (l : List (Nat × Nat × Nat)) (w : World) : Prop := ∃ cur, w.heap[b]? = some (.cells cur 60 (0, 0)) ∧ cur.toList.take (l.length * 4) = cells l
theorem cells_len (l : List (Nat × Nat × Nat)) : (cells l).length = l.length * 4 := by
  induction l with
  | nil => rfl
  | cons x l ih =>
    show (pc x ++ cells l).length = _
    rw [List.length_append, ih, List.length_cons]
    show 4 + _ = _
    omega
theorem cells_at (l : List (Nat × Nat × Nat)) (i : Nat) (x : Nat × Nat × Nat) (h : l[i]? = some x) (j : Nat) (hj : j < 4) : (cells l)[i * 4 + j]? = (pc x)[j]? := by
  induction l generalizing i with
  | nil => cases h
  | cons y l ih =>
    show (pc y ++ cells l)[i * 4 + j]? = _
    cases i with
    | zero =>
      simp at h
      subst h
      rw [Nat.zero_mul, Nat.zero_add, List.getElem?_append_left (by show j < 4; exact hj)]
    | succ i =>
      rw [List.getElem?_append_right (by show 4 ≤ _; omega)]
      have := ih i (by simpa using h)
      rw [← this]
      congr 1
      show (i + 1) * 4 + j - 4 = _
      omega
theorem CB.at {b : Nat} {l : List (Nat × Nat × Nat)} {w : World} (H : CB b l w) (i : Nat) (x : Nat × Nat × Nat) (h : l[i]? = some x) (j : Nat) (hj : j < 4) (v : Value) (hv : (pc x)[j]? = some v) : w.cell? ⟨b, i * 4 + j, none⟩ = some v := by
  obtain ⟨cur, hb, hc⟩ := H
  rw [blk_cell hb (i * 4 + j)]
  have hi : i < l.length := (List.getElem?_eq_some_iff.1 h).1
  have e := cells_at l i x h j hj
  rw [← hc, List.getElem?_take, if_pos (by omega), hv] at e
  rw [← e]
  exact (Array.getElem?_toList).symm
theorem CB.kept {b : Nat} {l : List (Nat × Nat × Nat)} {w w' : World} {r : Option Nat} (H : CB b l w) (g : w.grownBy w' r) (h : some b ≠ r) : CB b l w' := by
  obtain ⟨cur, hb, hc⟩ := H
  exact ⟨cur, (g.block b (blk_lt hb) h).trans hb, hc⟩
theorem CB.lt {b : Nat} {l : List (Nat × Nat × Nat)} {w : World} (H : CB b l w) : b < w.heap.size := by
  obtain ⟨cur, hb, hc⟩ := H
  exact blk_lt hb
/-- The bytes' cells. -/
theorem byc (l : List (Nat × Nat × Nat)) (h : L255 l) : cells l = Lib.byteCells (pbs l) := by
  induction l with
  | nil => rfl
  | cons x l ih =>
    have hx := h x List.mem_cons_self
    have e : ∀ v : Nat, v ≤ 255 → ((UInt8.ofNat v).toNat : Int) = (v : Int) := fun v hv => by
      rw [UInt8.toNat_ofNat']
      omega
    show pc x ++ cells l = Lib.byteCells (pb x ++ pbs l)
    rw [Lib.byteCells_append, ih (fun t ht => h t (List.mem_cons_of_mem _ ht))]
    congr 1
    unfold pc pb Lib.byteCells
    simp only [List.map_cons, List.map_nil]
    rw [e _ hx.1, e _ hx.2.1, e _ hx.2.2]
    rfl

/-- A row of the call's own is written. -/
theorem gb_row {W w w' : World} {v : Value} {B n k : Nat} {e : TypeId} {xs : List Value} (g : W.grownBy w none) (O : w.ownsRow B e k v n xs) (hB : W.heap.size ≤ B) (h : w.grownBy w' v.ownBlock) : W.grownBy w' none := by
  cases e : v.ownBlock with
  | none =>
    rw [e] at h
    exact gb_trans g h
  | some q =>
    rw [e] at h
    have := (O.lt q e).1
    exact gb_own g (by omega) h
theorem gb_under {w w5 w' : World} {r : Option Nat} (g : w.grownBy w5 none) (h : w5.grownBy w' r) : w.grownBy w' r := gb_trans (gb_any g r) h
/-- The text of a row of bytes. -/
theorem row_conv {w : World} {B n : Nat} {v : Value} {l : List UInt8} (O : w.ownsRow B 5 1 v n (Lib.byteCells l)) : (convert 30 9 v).run Tryz.prog w = .ok (.string ⟨l.toArray⟩) w := by
  have hn : l.length = n := by
    have := O.1
    rw [Lib.byteCells_length] at this
    omega
  have hsz : (⟨l.toArray⟩ : ByteArray).size = n := by
    rw [← hn]
    simp [ByteArray.size]
  rcases O.2 with ⟨rfl, h0⟩ | ⟨g, cap, cur, rfl, hB, hg, hle, hmax, hcs, htk⟩
  · have : l = [] := List.eq_nil_of_length_eq_zero (by omega)
    subst this
    exact conv_zero w none 0
  · have hb : Bx (some ⟨g, 0, none⟩) ⟨l.toArray⟩ w := by
      refine .inr ⟨g, 0, rfl, fun i hi => ?_⟩
      rw [Nat.zero_add, blk_cell hg i]
      have hin : i < n := by rw [← hsz]; exact hi
      have e : (Lib.byteCells l)[i]? = some (.int .u8 ((⟨l.toArray⟩ : ByteArray)[i].toNat : Int)) := by
        unfold Lib.byteCells
        rw [List.getElem?_map, List.getElem?_eq_getElem (by omega)]
        rfl
      rw [← htk, List.getElem?_take, if_pos (by omega)] at e
      rw [← e]
      exact (Array.getElem?_toList).symm
    have := conv_bx hb cap
    rw [hsz] at this
    exact this

set_option maxRecDepth 100000 in
set_option maxHeartbeats 4000000 in
theorem rbytes_calls (b cap : Nat) (l : List (Nat × Nat × Nat)) (W : World) (h : CB b l W) (h255 : L255 l) (hl : l.length ≤ 10000) (hcap : l.length ≤ cap) :
    Calls Tryz.prog 40 #[.slice (some ⟨b, 0, none⟩) l.length cap] W fun e w' => e = .returned (.string ⟨(pbs l).toArray⟩) ∧ W.grownBy w' none := by
  have J0 : (W.alloc (.cells #[] 5)).ownsRow W.heap.size 5 1 (.slice (some ⟨W.heap.size, 0, none⟩) 0 0) 0 [] ∧ W.grownBy (W.alloc (.cells #[] 5)) none :=
    ⟨World.ownsRow_made W #[] 0 (Nat.le_refl _) (by unfold maxLen; omega) (by simp), World.grownBy_alloc _ _ _⟩
  have HJ0 := Lib.hid J0
  have HCB := Lib.hid h
  have hbw := h.lt
  have H255 := Lib.hid h255
  have HL := Lib.hid hl
  obtain ⟨n, hn⟩ : ∃ n, l.length = n := ⟨_, rfl⟩
  have HN := Lib.hid hn
  rw [hn] at hcap ⊢
  obtain ⟨S, hS⟩ : ∃ S : ByteArray, (⟨(pbs l).toArray⟩ : ByteArray) = S := ⟨_, rfl⟩
  have HS := Lib.hid hS
  rw [hS]
  clear J0 h h255 hl hn hS
  go_enter Tryz.func40, Tryz.ntmps40
  go_wp2_with fail
  generalize W.alloc (.cells #[] 5) = w0 at HJ0 ⊢
  go_loopg [3, 4] n (fun q v iv wr => ∃ (i : Nat) (L : Value), i ≤ n ∧ q = n - i ∧ L = v ∧ iv = .int .i64 i ∧ wr.ownsRow W.heap.size 5 1 L (4 * i) (cells (l.take i)) ∧ W.grownBy wr none)
  case atStart => exact ⟨0, _, Nat.zero_le _, rfl, rfl, rfl, HJ0.out⟩
  case round =>
    obtain ⟨i, L, hi, rfl, rfl, rfl, O, G⟩ := hrel
    have gsz := G.size
    have C := HCB.out.kept G (by simp)
    by_cases hin : i < n
    · have d0 : decide ((i : Int) < (n : Int)) = true := decide_eq_true (by omega)
      obtain ⟨x, hx⟩ : ∃ x, l[i]? = some x := ⟨_, List.getElem?_eq_getElem (by rw [HN.out]; exact hin)⟩
      have e0 := C.at i x hx 0 (by decide) _ rfl
      have e1 := C.at i x hx 1 (by decide) _ rfl
      have e2 := C.at i x hx 2 (by decide) _ rfl
      have e3 := C.at i x hx 3 (by decide) _ rfl
      rw [Nat.add_zero] at e0
      have htk : cells (l.take (i + 1)) = cells (l.take i) ++ pc x := by
        have hil : i < l.length := by rw [HN.out]; exact hin
        rw [List.take_add_one, hx]
        show cells (l.take i ++ [x]) = _
        exact cells_snoc _ _
      obtain ⟨va, vn, vc, hv⟩ : ∃ a m c, L = .slice a m c := by
        rcases O.2 with ⟨h, _⟩ | ⟨g, cap, cur, h, _⟩
        · exact ⟨_, _, _, h⟩
        · exact ⟨_, _, _, h⟩
      subst hv
      have i4 : 4 * i < 1000000 := by have := HL.out; have := HN.out; omega
      obtain ⟨⟨x0, x1, x2⟩, hxx⟩ : ∃ t : Nat × Nat × Nat, x = t := ⟨_, rfl⟩
      subst hxx
      have HO := Lib.hid O
      have HG := Lib.hid G
      have HTK := Lib.hid htk
      clear O G C hx htk HJ0 gsz
      have HOd : (wr.drew).ownsRow W.heap.size 5 1 (.slice va vn vc) (4 * i) (cells (l.take i)) := HO.out.kept (gb_drew wr none) (by cases (Value.slice va vn vc).ownBlock <;> simp)
      have hBd : W.heap.size ≤ (wr.drew).heap.size := HG.out.size
      have HOd := Lib.hid HOd
      go_wp2_with fail
      go_region_law (first
        | (refine by4_step (x0, x1, x2) HOd.out i4 hBd (by rfl) (by rfl) (by rfl) (by rfl) ?_; intro gg cap2 w6 ho6 hg6; have HO6 := Lib.hid ho6; have HG6 := Lib.hid hg6; clear ho6 hg6))
      all_goals
        have G6 := gb_row (HG.out) (HO.out) (Nat.le_refl _) (gb_under (gb_trans (gb_drew wr none) (World.grownBy_alloc _ (b4 (x0, x1, x2)) none)) HG6.out)
        have HG7 := Lib.hid G6
        clear G6
        go_wp2
        go_roundg (n - (i + 1))
        case measure => omega
        case rel => exact ⟨i + 1, _, by omega, rfl, rfl, by go_num, by rw [HTK.out, show 4 * (i + 1) = 4 * i + 4 from by omega]; exact HO6.out, HG7.out⟩
    · obtain rfl : i = n := by omega
      have d0 : decide ((i : Int) < (i : Int)) = false := decide_eq_false (by omega)
      rw [List.take_of_length_le (by rw [HN.out]; exact Nat.le_refl _), byc l H255.out] at O
      have hconv := row_conv O
      rw [HS.out] at hconv
      have HG := Lib.hid G
      clear O G C
      go_wp2
      go_ret
      exact ⟨rfl, HG.out⟩

end Go.Proofs.YtcfdippcobkbaaaGreat.Px
