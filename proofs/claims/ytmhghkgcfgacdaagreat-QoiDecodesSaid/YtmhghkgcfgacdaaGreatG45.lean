/- Texts of one kind, one behind the other: Qe5. -/
import Derived.BigRegion
import Derived.Deep.Cut
import Derived.Deep.CutRange
import Derived.Deep.LoopGhost
import Derived.Deep.RegionHeld3
import Derived.Test.YtmhghkgcfgacdaaGreatG44
/- Layer 26: the document's Decode of a file whose head is right, walked (written by wip/gen/qe5.py). -/
namespace Go.Proofs.YtmhghkgcfgacdaaGreat.Qo
open Go.ChangeShapes Go.WideShapes Go.ChangeAt Go.RowKit
open Go.Proofs.YtmhghkgcfgacdaaGreat.Le Go.Proofs.YtmhghkgcfgacdaaGreat.Tk Go.Proofs.YtmhghkgcfgacdaaGreat.Sr Go.Proofs.YtmhghkgcfgacdaaGreat.Sh Go.Proofs.YtmhghkgcfgacdaaGreat.Qw Go.Proofs.YtmhghkgcfgacdaaGreat.Qd
open Go.Proofs.YtmhghkgcfgacdaaGreat.Ra hiding bt
set_option linter.unusedVariables false

theorem ar_k {i k t n : Nat} (h : i + t ≤ n) (hk : k ≤ t) (hn : n ≤ 100000) : k ≤ 100000 := by omega
theorem ar_mea {a b t n : Nat} (h : b = a + t) (ht : 1 ≤ t) (hn : a + t ≤ n) : n + 1 - b < n + 1 - a := by omega
theorem ar_ngt {i t n : Nat} (h : n < i + t) (hi : i ≤ n) : (n : Int) - (i : Int) < (t : Int) := by omega
theorem ar_sum {a b q : Nat} (h : a + b = q) (hq : q ≤ 2000) : IntKind.i64.wrap ((a : Int) + (b : Int)) = (q : Int) := by rw [IntWalk.i64_in _ (by omega)]; omega
theorem ar_sm2 {a b q : Nat} (h : a + b = q) : (a : Int) + (b : Int) = (q : Int) := by omega
theorem bn_ne {v c : Nat} (h : v ≠ c) : ((v : Int) != (c : Int)) = true := by rw [bne_iff_ne]; omega
theorem be_ne {v c : Nat} (h : v ≠ c) : ((v : Int) == (c : Int)) = false := by rw [beq_eq_false_iff_ne]; omega
theorem nn_ne {v c : Nat} (h : v ≠ c) : ¬ (v : Int) = (c : Int) := by omega
theorem ar_2000 {q a : Nat} (h : q < a) (ha : a ≤ 1000) : q ≤ 2000 := by omega
theorem ar_dec8 {m : Nat} (h : m < 8) : 9 - (m + 1) < 9 - m := by omega
theorem ar_w64 {q : Nat} (h : q ≤ 2000) : wrap64 (q : Int) = (q : Int) := IntWalk.wrap64_in _ (by omega)
theorem ar_wi {q : Nat} (h : q ≤ 2000) : IntKind.i64.wrap (q : Int) = (q : Int) := IntWalk.i64_in _ (by omega)
theorem ar_lt7 {m : Nat} (h : m < 8) (h7 : ¬ m = 7) : (m : Int) < 7 := by omega
theorem ar_q {a m q : Nat} (h : a ≤ 1000) (hm : m < 8) (hq : a + m = q) : q ≤ 2000 := by omega
theorem ar_nle {a b : Nat} (h : b < a) : ¬ (a : Int) ≤ (b : Int) := by omega
theorem ar_nle2 {a b c q : Nat} (h : q < a) (hq : b + c = q) : ¬ (a : Int) ≤ (b : Int) + (c : Int) := by omega
theorem ar_yle2 {a b c q : Nat} (h : a ≤ q) (hq : b + c = q) : (a : Int) ≤ (b : Int) + (c : Int) := by omega
theorem QE.pj {s : ByteArray} {n J f p N : Nat} (h : QE s n J f p N) (h14 : 14 ≤ s.size) {j : Nat} (hj : j ≤ J) : (sq s j).p ≤ s.size := by
  cases j with
  | zero => exact h14
  | succ j => exact (h.go j (by omega)).nb
theorem ar_ne {a b B : Nat} (h : B ≤ a) (hb : b < B) : ¬ a = b := by omega
theorem ar_dec {k t : Nat} (h : k < t) : t + 1 - (k + 1) < t + 1 - k := by omega
theorem ar_nlt {i t n : Nat} (h : i + t ≤ n) : ¬ (n : Int) - (i : Int) < (t : Int) := by omega
theorem ar_lt {a b : Nat} (h : a < b) : decide ((a : Int) < (b : Int)) = true := decide_eq_true (by omega)
theorem ar_ge {a b : Nat} (h : b ≤ a) : decide ((a : Int) < (b : Int)) = false := decide_eq_false (by omega)
theorem ar_le {a b : Nat} (h : a ≤ b) : decide ((a : Int) ≤ (b : Int)) = true := decide_eq_true (by omega)
theorem ar_gt {a b : Nat} (h : b < a) : decide ((a : Int) ≤ (b : Int)) = false := decide_eq_false (by omega)
theorem ar_sub {i n : Nat} (hi : i ≤ n) (hn : n ≤ 100000) : IntKind.i64.wrap ((n : Int) - (i : Int)) = (n : Int) - (i : Int) := IntWalk.i64_in _ (by omega)
theorem ar_add {a b : Nat} (h : a + b ≤ 1000) : IntKind.i64.wrap ((a : Int) + (b : Int)) = (a : Int) + (b : Int) := IntWalk.i64_in _ (by omega)
theorem ar_six {i k t n : Nat} (h : i + t ≤ n) (hk : k < t) (hn : n ≤ 100000) : i + k < 1000000 := by omega
/-- What the document's Step does with a text. -/
def StepOk (s : ByteArray) : Prop := ∀ (p g : Nat) (last : C4) (seen : Nat → C4) (W : World), p < s.size → last.ok → (∀ k, (seen k).ok) → SnD g seen W →
  (p + nb (bt s p) ≤ s.size → Calls Tryz.prog 31 #[.string s, .int .i64 p, cV last, .slice (some ⟨g, 0, none⟩) 64 64] W fun e w' => e = .returned (.tuple #[cV (colQ s p last seen), .int .i64 (tms (bt s p) : Nat), .int .i64 (nb (bt s p) : Nat), .bool true]) ∧ W.grownBy w' none) ∧
  (s.size < p + nb (bt s p) → Calls Tryz.prog 31 #[.string s, .int .i64 p, cV last, .slice (some ⟨g, 0, none⟩) 64 64] W fun e w' => e = .returned (.tuple #[.agg #[.int .u8 0, .int .u8 0, .int .u8 0, .int .u8 0], .int .i64 0, .int .i64 0, .bool false]) ∧ W.grownBy w' none)
/-- What Decode tells: what is wrong; or a list of pixels. -/
def DQ (W : World) (w h f p : Nat) (l : List (Nat × Nat × Nat × Nat)) (e : Ending) (w' : World) : Prop :=
  W.grownBy w' none ∧ ((f ≠ 0 ∧ e = .returned (.agg (imB f p))) ∨ (f = 0 ∧ ∃ L, e = .returned (.agg #[.int .i64 w, .int .i64 h, L, .int .i64 0, .int .i64 0]) ∧ w'.ownsRow W.heap.size 67 4 L l.length (cells l)))

set_option maxRecDepth 100000 in
set_option maxHeartbeats 8000000 in
theorem rdec_head (s : ByteArray) (w h n J f p N : Nat) (ST : StepOk s) (M : MK sgQ s 4) (hn14 : 14 ≤ s.size) (hs : s.size ≤ 1000) (ew : beV s 4 = w) (eh : beV s 8 = h) (hkd : kdQ 4 w h (chK (bt s 12) (bt s 13)) = 0) (hw : w ≤ 16384) (hh : h ≤ 16384) (hn : w * h = n) (hn6 : n ≤ 100000) (E : QE s n J f p N) (W : World) :
    Calls Tryz.prog 10 #[.string s] W (DQ W w h f p (qL (CF (sq s J)) n)) := by
  obtain ⟨Q, hQ⟩ : ∃ Q, DQ W w h f p (qL (CF (sq s J)) n) = Q := ⟨_, rfl⟩
  rw [hQ]
  have HQ := Lib.hid hQ
  obtain ⟨pl0, hpl⟩ : ∃ pl, ppQ 4 w h (chP (bt s 12) (bt s 13)) = pl := ⟨_, rfl⟩
  have KC := fun u => check_calls s 4 w h 0 pl0 M hn14 (by omega) ew eh hkd hpl u
  unfold imB at KC
  have KC := Lib.hid KC
  have KB := fun (k q : Int) u => bad13_calls k q u
  unfold imB at KB
  have KB := Lib.hid KB
  have K1 : ∀ u, Calls Tryz.prog 19 #[.string (s.extract 4 8)] u fun e w' => e = .returned (.int .i64 (beV s 4 : Nat)) ∧ u = w' := fun u => be_calls s 4 u
  have K2 : ∀ u, Calls Tryz.prog 19 #[.string (s.extract 8 12)] u fun e w' => e = .returned (.int .i64 (beV s 8 : Nat)) ∧ u = w' := fun u => be_calls s 8 u
  rw [ew] at K1
  rw [eh] at K2
  have K1 := Lib.hid K1
  have K2 := Lib.hid K2
  have s1 : ∀ w, (Instr.slice 9 (.string s) (some (.int .i64 4)) (some (.int .i64 8)) none).run Tryz.prog w = .ok (.string (s.extract 4 8)) w := fun w => Sr.cut_at s 4 4 (by omega) w
  have s2 : ∀ w, (Instr.slice 9 (.string s) (some (.int .i64 8)) (some (.int .i64 12)) none).run Tryz.prog w = .ok (.string (s.extract 8 12)) w := fun w => Sr.cut_at s 8 4 (by omega) w
  have d1 : decide ((s.size : Int) < 14) = false := decide_eq_false (by omega)
  have d1' : ¬ (s.size : Int) < 14 := by omega
  have HWH := Lib.hid (And.intro hs (And.intro hn hn6))
  have hmul : (w : Int) * (h : Int) = (n : Int) := by rw [← hn]; exact (Int.natCast_mul _ _).symm
  have HMUL := Lib.hid hmul
  have HE := Lib.hid E
  have HPJ := Lib.hid (fun j (hj : j ≤ J) => E.pj hn14 hj)
  have HST := Lib.hid ST
  have G0 := Lib.hid (World.grownBy_alloc W (.cells #[.int .i64 0, .int .i64 0, .slice none 0 0, .int .i64 0, .int .i64 0] 39) none)
  have I0 := Lib.hid (blk_at (w := W) (o := .cells #[.int .i64 0, .int .i64 0, .slice none 0 0, .int .i64 0, .int .i64 0] 39))
  clear M hn14 hs ew eh hkd hpl hn hmul hw hh hn6 E ST hQ
  go_enter Tryz.func10, Tryz.ntmps10
  go_wp2_with fail
  generalize W.alloc (.cells #[.int .i64 0, .int .i64 0, .slice none 0 0, .int .i64 0, .int .i64 0] 39) = w0 at G0 I0 ⊢
  refine (KC.out _).mono ?_
  rintro e w2 ⟨rfl, G2⟩
  have g3 := World.grownBy_alloc w2 (.cells #[.int .i64 0, .int .i64 0, .slice none 0 0, .int .i64 0, .int .i64 pl0] 39) none
  have I3 := ((gb_trans G2 g3).block _ (blk_lt I0.out) (by simp)).trans I0.out
  have J3 : (w2.alloc (.cells #[.int .i64 0, .int .i64 0, .slice none 0 0, .int .i64 0, .int .i64 pl0] 39)).heap[w2.heap.size]? = _ := blk_at
  have j3 := blk_cell J3 3
  simp only [List.getElem?_toArray, List.getElem?_cons_succ, List.getElem?_cons_zero] at j3
  have HG3 := Lib.hid (gb_trans G0.out (gb_trans G2 g3))
  have HI3 := Lib.hid I3
  clear I3 J3 G2 G0 I0 g3 KC
  go_wp2_with fail
  generalize w2.alloc (.cells #[.int .i64 0, .int .i64 0, .slice none 0 0, .int .i64 0, .int .i64 pl0] 39) = w3 at HG3 HI3 j3 ⊢
  clear j3
  conv => arg 4; dsimp only
  go_cut [4] from 26 to 32 (fun v wx => ∃ ob, v = .pointer (some ⟨ob, 0, none⟩) ∧ wx.heap[W.heap.size]? = some (.cells #[.int .i64 0, .int .i64 0, .slice none 0 0, .int .i64 0, .int .i64 0] 39 (0, 0)) ∧ wx.heap[ob]? = some (.cells #[.int .i64 w, .int .i64 h, .slice none 0 0, .int .i64 0, .int .i64 0] 39 (0, 0)) ∧ W.grownBy wx none ∧ W.heap.size < ob)
  case first =>
    go_region_held3 (fun _ => True) (go_keep)
      (first
        | (go_at_call 19; (with_reducible refine (K1.out _).mono ?_); rintro e w' ⟨rfl, rfl⟩)
        | (go_at_call 19; (with_reducible refine (K2.out _).mono ?_); rintro e w' ⟨rfl, rfl⟩))
    all_goals
      have g4 := gb_trans (World.grownBy_alloc w3 (.cells #[.int .i64 w, .int .i64 h, .slice none 0 0, .int .i64 0, .int .i64 0] 39) none) (gb_drew _ none)
      have b4 : (w3.alloc (.cells #[.int .i64 w, .int .i64 h, .slice none 0 0, .int .i64 0, .int .i64 0] 39)).drew.heap[w3.heap.size]? = some (.cells #[.int .i64 w, .int .i64 h, .slice none 0 0, .int .i64 0, .int .i64 0] 39 (0, 0)) := (gb_drew _ none).block _ (by rw [size_alloc]; omega) (by simp) |>.trans blk_at
      have h3 := blk_lt HI3.out
      have HT0 := Lib.hid (And.intro ((g4.block _ (blk_lt HI3.out) (by simp)).trans HI3.out) (And.intro b4 (And.intro (gb_trans HG3.out g4) h3)))
      clear g4 b4 h3
      go_wp2_with fail
      go_meet
      case rel => exact ⟨_, rfl, HT0.out⟩
  case rest =>
    clear s1 s2 d1 d1' HI3 K1 K2
    obtain ⟨ob, rfl, b1, b2, g2, hlt⟩ := hcut
    have HM := fun u => make64 u
    have g5 := gb_trans (World.grownBy_alloc wc (.cells zQ 67) none) (World.grownBy_alloc _ (.cells #[.int .u8 0, .int .u8 0, .int .u8 0, .int .u8 255] 67) none)
    have hz5 : ((wc.alloc (.cells zQ 67)).alloc (.cells #[.int .u8 0, .int .u8 0, .int .u8 0, .int .u8 255] 67)).heap.size = wc.heap.size + 2 := by rw [size_alloc, size_alloc]
    have z5 : ((wc.alloc (.cells zQ 67)).alloc (.cells #[.int .u8 0, .int .u8 0, .int .u8 0, .int .u8 255] 67)).heap[wc.heap.size]? = some (.cells zQ 67 (0, 0)) := blk_al blk_at _
    have l5 : ((wc.alloc (.cells zQ 67)).alloc (.cells #[.int .u8 0, .int .u8 0, .int .u8 0, .int .u8 255] 67)).heap[wc.heap.size + 1]? = some (.cells #[.int .u8 0, .int .u8 0, .int .u8 0, .int .u8 255] 67 (0, 0)) := by
      have h := blk_at (w := wc.alloc (.cells zQ 67)) (o := .cells #[.int .u8 0, .int .u8 0, .int .u8 0, .int .u8 255] 67)
      rw [size_alloc] at h
      exact h
    have h1 := blk_lt b1
    have h2 := blk_lt b2
    have D0 : DS W W.heap.size ob wc.heap.size (wc.heap.size + 1) (wc.heap.size + 2) w h (.slice none 0 0) (sq s 0) ((wc.alloc (.cells zQ 67)).alloc (.cells #[.int .u8 0, .int .u8 0, .int .u8 0, .int .u8 255] 67)) :=
      ⟨⟨(g5.block _ h1 (by simp)).trans b1, (g5.block _ h2 (by simp)).trans b2, World.ownsRow_nil _ _ _ _, gb_trans g2 g5, by omega, by omega, by omega, by omega, Nat.le_refl _, by omega⟩, SB.zero z5, l5⟩
    have HD0 := Lib.hid D0
    have HPL := Lib.hid (show PL W W.heap.size ob wc.heap.size (wc.heap.size + 1) (wc.heap.size + 2) from ⟨by omega, by omega, by omega, by omega, by omega, by omega, by omega, by have := g2.size; omega, by have := g2.size; omega⟩)
    obtain ⟨gs, hgs⟩ : ∃ g, wc.heap.size = g := ⟨_, rfl⟩
    clear b1 b2 g2 g5 hz5 z5 l5 h1 h2 D0
    go_wp2_with fail
    rw [hgs] at HD0 HPL
    obtain ⟨lb, hlb⟩ : ∃ g, gs + 1 = g := ⟨_, rfl⟩
    obtain ⟨B, hB⟩ : ∃ g, gs + 2 = g := ⟨_, rfl⟩
    rw [hlb, hB] at HD0 HPL
    rw [hlb]
    generalize (wc.alloc (.cells zQ 67)).alloc (.cells #[.int .u8 0, .int .u8 0, .int .u8 0, .int .u8 255] 67) = w6 at HD0 ⊢
    clear hgs hlb hB HM hlt
    go_loopg [7] (n + 1) (fun q av wr => ∃ (j : Nat) (L : Value), j ≤ J ∧ q = n + 1 - (sq s j).i ∧ av = .int .i64 ((sq s j).p : Nat) ∧ DS W W.heap.size ob gs lb B w h L (sq s j) wr)
    case atStart => exact ⟨0, _, Nat.zero_le _, rfl, rfl, HD0.out⟩
    case round =>
      clear HD0
      obtain ⟨j, L, hj, rfl, rfl, D⟩ := hrel
      obtain ⟨La, Lc, rfl⟩ : ∃ a c, L = .slice a (sq s j).i c := by
        rcases D.T.own.2 with ⟨h1, h2⟩ | ⟨g, cap, cur, h1, _⟩
        · exact ⟨none, 0, by rw [h1, h2]⟩
        · exact ⟨_, _, h1⟩
      have hij := HE.out.ij hj
      have HD := Lib.hid D
      have o0 := D.T.oc0
      have o1 := D.T.oc1
      have o2 := D.T.oc2
      have hmul := HMUL.out
      have hn6 := HWH.out.2.2
      have hs1 := HWH.out.1
      clear D
      by_cases hJ : j < J
      · have GQ := HE.out.go j hJ
        have hok := okr s j
        have hnx : sq s (j + 1) = nxt s (sq s j) := rfl
        obtain ⟨R, hR⟩ : ∃ R, sq s j = R := ⟨_, rfl⟩
        rw [hR] at GQ hok hij HD o2 hnx ⊢
        have HNX := Lib.hid hnx
        have hgi := GQ.i
        have hgp := GQ.p
        have hgn := GQ.nb
        have hgt := GQ.t
        have ht1 := tms_1 (bt s R.p)
        have hn1 := nb_1 (bt s R.p)
        have KS := fun u (S : SnD gs R.seen u) => (HST.out R.p gs R.last R.seen u hgp hok.last hok.seen S).1 hgn
        obtain ⟨i, hi⟩ : ∃ i, R.i = i := ⟨_, rfl⟩
        obtain ⟨pp, hpp⟩ : ∃ i, R.p = i := ⟨_, rfl⟩
        obtain ⟨t, ht⟩ : ∃ i, tms (bt s R.p) = i := ⟨_, rfl⟩
        obtain ⟨b, hb⟩ : ∃ i, nb (bt s R.p) = i := ⟨_, rfl⟩
        obtain ⟨c, hc⟩ : ∃ c, colQ s R.p R.last R.seen = c := ⟨_, rfl⟩
        have HC := Lib.hid hc
        have HT := Lib.hid ht
        have HPB := Lib.hid (And.intro hpp hb)
        have HRR := Lib.hid hR
        have HOC := Lib.hid (show c.ok from by rw [← hc]; exact col_ok s R.p hok.last hok.seen)
        rw [ht, hb, hc, hpp] at KS
        rw [hi] at hgi hgt hij o2
        rw [hb] at hgn
        rw [hpp] at hgp hgn ⊢
        rw [ht] at hgt ht1
        have a0 := blk_cell HD.out.l 0
        have a1 := blk_cell HD.out.l 1
        have a2 := blk_cell HD.out.l 2
        have a3 := blk_cell HD.out.l 3
        unfold cC at a0 a1 a2 a3
        simp only [List.getElem?_toArray, List.getElem?_cons_succ, List.getElem?_cons_zero] at a0 a1 a2 a3
        have KS1 := KS wr HD.out.s.sn
        unfold cV cQ at KS1
        have KS1 := Lib.hid KS1
        have d2 : decide ((i : Int) < (n : Int)) = true := decide_eq_true (by omega)
        have d2' : (i : Int) < (n : Int) := by omega
        have d3 : decide ((s.size : Int) ≤ (pp : Int)) = false := decide_eq_false (by omega)
        have d3' : ¬ (s.size : Int) ≤ (pp : Int) := by omega
        have wn : IntKind.i64.wrap (n : Int) = (n : Int) := IntWalk.i64_in _ (by omega)
        have wn2 : wrap64 (n : Int) = (n : Int) := IntWalk.wrap64_in _ (by omega)
        clear hok ht hb hc hpp hnx hR
        go_wp2_with fail
        refine KS1.out.mono ?_
        rintro e w7 ⟨rfl, g7⟩
        have g8 := World.grownBy_alloc w7 (.cells #[.int .u8 c.r, .int .u8 c.g, .int .u8 c.b, .int .u8 c.a] 67) none
        have D8 := (HD.out.kept g7).kept g8
        have HC8 := Lib.hid (blk_at (w := w7) (o := .cells #[.int .u8 c.r, .int .u8 c.g, .int .u8 c.b, .int .u8 c.a] 67))
        have HDX := Lib.hid (HD.out.kept g7).T
        have HNB := Lib.hid (show w7.heap.size ≠ ob ∧ B ≤ w7.heap.size from ⟨fun e => Nat.lt_irrefl _ (e ▸ blk_lt (HD.out.kept g7).T.fob), (HD.out.kept g7).T.Bu⟩)
        have HD8 := Lib.hid D8
        have v0 := D8.T.oc0
        have v1 := D8.T.oc1
        have v2 := D8.T.oc2
        rw [hi] at v2
        have d4 : decide ((n : Int) - (i : Int) < (t : Int)) = false := decide_eq_false (ar_nlt hgt)
        have d4' : ¬ (n : Int) - (i : Int) < (t : Int) := ar_nlt hgt
        have wni : IntKind.i64.wrap ((n : Int) - (i : Int)) = (n : Int) - (i : Int) := ar_sub hij hn6
        have wpb : IntKind.i64.wrap ((pp : Int) + (b : Int)) = (pp : Int) + (b : Int) := ar_add (Nat.le_trans hgn hs1)
        clear KS1 KS D8 g7 g8 a0 a1 a2 a3 o0 o1 o2 d2 d2' d3 d3'
        go_wp2_with fail
        clear v0 v1 v2
        generalize w7.alloc (.cells #[.int .u8 c.r, .int .u8 c.g, .int .u8 c.b, .int .u8 c.a] 67) = w8 at HD8 HC8 ⊢
        obtain ⟨cb, hcb⟩ : ∃ x, w7.heap.size = x := ⟨_, rfl⟩
        rw [hcb] at HC8 HNB ⊢
        have HI := Lib.hid hi
        clear hi
        have HI0 := Lib.hid (show DI W W.heap.size ob gs lb cb B w h (.slice La i Lc) i (qL (CF (nxt s R)) i) R.last c R.seen w8 from by
          have T := HD8.out.T
          rw [HI.out] at T
          rw [← qL_congr (CF R) (CF (nxt s R)) i (fun k hk q => cf_next s R k (by rw [HI.out]; exact hk) q)]
          refine ⟨T, HD8.out.s, HD8.out.l, HC8.out, fun e => ?_⟩
          have h1 := (HDX.out.own.lt cb (by rw [HI.out]; exact e)).2
          exact Nat.lt_irrefl _ (hcb ▸ h1))
        have HAR := Lib.hid (And.intro hgt (And.intro hn6 hJ))
        have HNB2 := Lib.hid (show (((nxt s R).p : Nat) : Int) = (pp : Int) + (b : Int) from by rw [← HPB.out.1, ← HPB.out.2]; exact Int.natCast_add _ _)
        clear HD HD8 HC8 HDX hcb hmul hn6 hs1 hJ hij hgi hgp ht1 hgt hgn wn wn2 d4 wni wpb d4' hn1 GQ
        go_loopg [12] (t + 1) (fun q iv u => ∃ (k : Nat) (L2 : Value), k ≤ t ∧ q = t + 1 - k ∧ iv = .int .i64 (k : Nat) ∧ DI W W.heap.size ob gs lb cb B w h L2 (i + k) (qL (CF (nxt s R)) (i + k)) R.last c R.seen u)
        case atStart => exact ⟨0, _, Nat.zero_le _, rfl, rfl, HI0.out⟩
        case round =>
          clear HI0
          obtain ⟨k, L2, hk, rfl, rfl, D⟩ := hrel
          obtain ⟨va, vn, vc, rfl⟩ := D.T.sl
          have HD := Lib.hid D
          by_cases hkt : k < t
          · have d5 : decide ((k : Int) < (t : Int)) = true := ar_lt hkt
            have o2 := D.T.oc2
            have a0 := blk_cell D.c 0
            have a1 := blk_cell D.c 1
            have a2 := blk_cell D.c 2
            have a3 := blk_cell D.c 3
            unfold cC at a0 a1 a2 a3
            simp only [List.getElem?_toArray, List.getElem?_cons_succ, List.getElem?_cons_zero] at a0 a1 a2 a3
            have hik : i + k < 1000000 := ar_six HAR.out.1 hkt HAR.out.2.1
            have HQC := Lib.hid (show qL (CF (nxt s R)) (i + k) ++ [(c.r, c.g, c.b, c.a)] = qL (CF (nxt s R)) (i + (k + 1)) from by
              rw [show i + (k + 1) = i + k + 1 from rfl, qL_snoc, qC_nxt s R (i + k) (by rw [HI.out]; exact Nat.le_add_right _ _)]
              rw [← HC.out])
            clear D
            go_wp2_with (at_builtin; refine qcol_app (c := c) (last := R.last) (seen := R.seen) (cb := cb) (i := i + k) HPL.out HD.out hik HNB.out.1 rfl rfl rfl rfl ?_)
            intro g9 cap9 w9 D9 x9 f9
            have HD9 := Lib.hid D9
            have HKT := Lib.hid (And.intro hk hkt)
            have hk9 : k ≤ 100000 := ar_k HAR.out.1 hk HAR.out.2.1
            clear D9 a0 a1 a2 a3 o2 hik d5 hk hkt
            go_wp2
            go_roundg (t + 1 - (k + 1))
            case measure => exact ar_dec HKT.out.2
            case rel => exact ⟨k + 1, _, HKT.out.2, rfl, by go_num, by rw [← HQC.out]; exact HD9.out⟩
          · obtain rfl : k = t := Nat.le_antisymm hk (Nat.not_lt.1 hkt)
            have d5 : decide ((k : Int) < (k : Int)) = false := ar_ge (Nat.le_refl _)
            have a0 := blk_cell D.c 0
            have a1 := blk_cell D.c 1
            have a2 := blk_cell D.c 2
            have a3 := blk_cell D.c 3
            have b0 := blk_cell D.l 0
            have b1 := blk_cell D.l 1
            have b2 := blk_cell D.l 2
            have b3 := blk_cell D.l 3
            unfold cC at a0 a1 a2 a3 b0 b1 b2 b3
            simp only [List.getElem?_toArray, List.getElem?_cons_succ, List.getElem?_cons_zero] at a0 a1 a2 a3 b0 b1 b2 b3
            have z0 := blk_free D.l 0
            have z1 := blk_free D.l 1
            have z2 := blk_free D.l 2
            have z3 := blk_free D.l 3
            have hl := blk_lt D.l
            have HDL := Lib.hid (D.last HPL.out HNB.out.2)
            clear D HD hk hkt
            go_upto_region 24 with fail
            clear a0 a1 a2 a3 b0 b1 b2 b3 z0 z1 z2 z3 hl d5
            generalize (((wr.setCell ⟨lb, 0, none⟩ (.int .u8 c.r)).setCell ⟨lb, 1, none⟩ (.int .u8 c.g)).setCell ⟨lb, 2, none⟩ (.int .u8 c.b)).setCell ⟨lb, 3, none⟩ (.int .u8 c.a) = w10 at HDL ⊢
            obtain ⟨x, hx⟩ : ∃ x, plQ c.r c.g c.b c.a = x := ⟨_, rfl⟩
            have hx64 : x < 64 := by rw [← hx]; exact plQ_lt _ _ _ _
            have KP := fun u => rplace_calls c.r c.g c.b c.a HOC.out.1 HOC.out.2.1 HOC.out.2.2.1 HOC.out.2.2.2 u
            rw [hx] at KP
            unfold cQ at KP
            have KP := Lib.hid KP
            have HX := Lib.hid (And.intro hx hx64)
            have p6 : decide ((x : Int) < 64) = true := decide_eq_true (Int.ofNat_lt.2 hx64)
            have p7 : (x : Int) < 64 := Int.ofNat_lt.2 hx64
            clear hx
            have a0 := blk_cell HDL.out.c 0
            have a1 := blk_cell HDL.out.c 1
            have a2 := blk_cell HDL.out.c 2
            have a3 := blk_cell HDL.out.c 3
            unfold cC at a0 a1 a2 a3
            simp only [List.getElem?_toArray, List.getElem?_cons_succ, List.getElem?_cons_zero] at a0 a1 a2 a3
            have hcg : ¬ cb = gs := ar_ne HNB.out.2 HPL.out.g
            have hgc : ¬ gs = cb := fun e => hcg e.symm
            go_region_held3 (fun w' => w'.cell? ⟨cb, 0, none⟩ = some (.int .u8 c.r) ∧ w'.cell? ⟨cb, 1, none⟩ = some (.int .u8 c.g) ∧ w'.cell? ⟨cb, 2, none⟩ = some (.int .u8 c.b) ∧ w'.cell? ⟨cb, 3, none⟩ = some (.int .u8 c.a)) (go_keep)
              (first
                | (go_at_call 32; (with_reducible refine (KP.out _).mono ?_); rintro e u2 ⟨rfl, gp⟩; have D11 := Lib.hid (HDL.out.kept (gb_trans (gb_drew w10 none) gp)); have y0 := blk_cell D11.out.c 0; have y1 := blk_cell D11.out.c 1; have y2 := blk_cell D11.out.c 2; have y3 := blk_cell D11.out.c 3; unfold cC at y0 y1 y2 y3; simp only [List.getElem?_toArray, List.getElem?_cons_succ, List.getElem?_cons_zero] at y0 y1 y2 y3; have s0 := D11.out.s.sn x 0 HX.out.2 (by decide); have s1 := D11.out.s.sn x 1 HX.out.2 (by decide); have s2 := D11.out.s.sn x 2 HX.out.2 (by decide); have s3 := D11.out.s.sn x 3 HX.out.2 (by decide); rw [Nat.mul_comm 4 x, Nat.add_zero] at s0; rw [Nat.mul_comm 4 x] at s1 s2 s3; obtain ⟨CS, hCS⟩ := D11.out.s.blk; have f0 := blk_free hCS (x * 4); have f1 := blk_free hCS (x * 4 + 1); have f2 := blk_free hCS (x * 4 + 2); have f3 := blk_free hCS (x * 4 + 3); have hgl := blk_lt hCS))
            all_goals
              have HFIN := Lib.hid (DI.put (o := x * 4) HPL.out D11.out HNB.out.2 (by rw [← HX.out.1]; exact Nat.mul_comm _ _))
              clear y0 y1 y2 y3 s0 s1 s2 s3 hCS f0 f1 f2 f3 hgl a0 a1 a2 a3 p6 p7 hcg hgc gp hx64
              go_wp2
              go_roundg (n + 1 - (sq s (j + 1)).i)
              case measure =>
                rw [HNX.out, HRR.out]
                exact ar_mea (show (nxt s R).i = R.i + k from by rw [← HT.out]; rfl) (by rw [← HT.out]; exact tms_1 _) (by rw [HI.out]; exact HAR.out.1)
              case rel =>
                refine ⟨j + 1, .slice va vn vc, HAR.out.2.2, rfl, ?_, ?_⟩
                · rw [HNX.out, HNB2.out]
                · rw [HNX.out]
                  exact DS.of HI.out HT.out HC.out HFIN.out
      · obtain rfl : j = J := Nat.le_antisymm hj (Nat.not_lt.1 hJ)
        have ED := HE.out.ed
        have hok := okr s j
        obtain ⟨R, hR⟩ : ∃ R, sq s j = R := ⟨_, rfl⟩
        rw [hR] at ED hok hij HD o2 ⊢
        have HRR := Lib.hid hR
        obtain ⟨i, hi⟩ : ∃ i, R.i = i := ⟨_, rfl⟩
        obtain ⟨pp, hpp⟩ : ∃ i, R.p = i := ⟨_, rfl⟩
        have HI := Lib.hid hi
        have HP := Lib.hid hpp
        rw [hi] at hij o2
        have wn : IntKind.i64.wrap (n : Int) = (n : Int) := IntWalk.i64_in _ (by omega)
        have wn2 : wrap64 (n : Int) = (n : Int) := IntWalk.wrap64_in _ (by omega)
        rcases ED with ⟨h1, h2⟩ | ⟨h1, h2, h3, h4, _⟩ | ⟨h1, h2, h3, h4, h5, _⟩ | ⟨h1, h2, h3, h4, h5, h6, _⟩
        · rw [hi] at h1
          rw [hpp] at h2
          subst h1
          rw [hpp]
          obtain ⟨kk, hpre, hend⟩ := h2
          have HPRE := Lib.hid hpre
          have HEND := Lib.hid hend
          have HS1 := Lib.hid hs1
          have HP0 := Lib.hid (show pp ≤ 1000 from by rw [← hpp, ← hR]; exact Nat.le_trans (HPJ.out j hj) hs1)
          have d2 : decide ((i : Int) < (i : Int)) = false := ar_ge (Nat.le_refl _)
          clear hpre hend hok hR hpp hi hij hs1 hn6
          go_wp2_with fail
          clear o0 o1 o2 d2 hmul wn wn2
          go_loopg [13] 9 (fun q iv u => ∃ m : Nat, m ≤ 8 ∧ m ≤ kk ∧ q = 9 - m ∧ iv = .int .i64 (m : Nat) ∧ u = wr)
          case atStart => exact ⟨0, by decide, Nat.zero_le _, rfl, rfl, rfl⟩
          case round =>
            obtain ⟨m, hm8, hmk, rfl, rfl, rfl⟩ := hrel
            by_cases hm : m < 8
            · have d8 : (m : Int) < 8 := Int.ofNat_lt.2 hm
              obtain ⟨q, hq⟩ : ∃ q, pp + m = q := ⟨_, rfl⟩
              have a1 : (pp : Int) + (m : Int) = (q : Int) := ar_sm2 hq
              have wq2 := ar_w64 (ar_q HP0.out hm hq)
              have wq3 := ar_wi (ar_q HP0.out hm hq)
              by_cases hkk : m < kk
              · have hb := HPRE.out m hkk
                rw [hq] at hb
                have hqs := hb.1
                have hqn : ¬ s.size ≤ q := Nat.not_le.2 hqs
                have hqn1 := ar_nle hqs
                have hqn2 := ar_nle2 hqs hq
                have hqn3 := ar_gt hqs
                have wq : IntKind.i64.wrap ((pp : Int) + (m : Int)) = (q : Int) := ar_sum hq (ar_2000 hqs HS1.out)
                have y := bt_cell s q hqs hb.2
                have HM := Lib.hid (And.intro hm hkk)
                by_cases h7 : m = 7
                · subst h7
                  rw [show ((7 : Nat) : Int) = 7 from rfl] at a1 hqn2 wq
                  rw [show ((endB 7 : Nat) : Int) = 1 from rfl] at y
                  clear hb hq hkk hmk hm hm8 d8
                  go_wp2
                  go_roundg (9 - (7 + 1))
                  case measure => decide
                  case rel => exact ⟨8, by decide, HM.out.2, rfl, by go_num, rfl⟩
                · have e7 : ((m : Int) == 7) = false := be_ne (c := 7) h7
                  have n7 : ¬ (m : Int) = 7 := nn_ne (c := 7) h7
                  have l7 : (m : Int) < 7 := ar_lt7 hm h7
                  have ez : endB m = 0 := if_neg h7
                  rw [ez, show ((0 : Nat) : Int) = 0 from rfl] at y
                  clear hb hq hkk hmk hm hm8 ez h7
                  go_wp2
                  go_roundg (9 - (m + 1))
                  case measure => exact ar_dec8 HM.out.1
                  case rel => exact ⟨m + 1, HM.out.1, HM.out.2, rfl, by go_num, rfl⟩
              · obtain rfl : m = kk := Nat.le_antisymm hmk (Nat.not_lt.1 hkk)
                rcases HEND.out with ⟨e1, _⟩ | ⟨e1, e2, e3, e4, _⟩ | ⟨e1, e2, e3, e4, e5, _⟩
                · exfalso; omega
                · rw [hq] at e2
                  have hqs := e2
                  have hqs1 : (s.size : Int) ≤ (q : Int) := Int.ofNat_le.2 e2
                  have hqs2 := ar_yle2 e2 hq
                  have hqs3 := ar_le e2
                  have HF := Lib.hid (And.intro e3 e4)
                  have wq : IntKind.i64.wrap ((pp : Int) + (m : Int)) = (q : Int) := ar_sum hq (ar_q HP0.out hm hq)
                  clear e1 e2 e3 e4 hq hkk hmk hm hm8 HPRE HEND
                  go_wp2_with fail
                  refine (KB.out 1 (s.size : Int) _).mono ?_
                  rintro e w5 ⟨rfl, g5⟩
                  have T5 := HD.out.T.grown g5
                  have q0 := T5.rc0
                  have q1 := T5.rc1
                  have q2 := T5.rc2
                  have q3 := T5.rc3
                  have q4 := T5.rc4
                  have f0 := T5.rfree 0
                  have f1 := T5.rfree 1
                  have f2 := T5.rfree 2
                  have f3 := T5.rfree 3
                  have f4 := T5.rfree 4
                  have HT5 := Lib.hid T5.g
                  clear T5 g5
                  go_wp2
                  refine bodyPost_ret (v := .agg (imB 1 (s.size : Int))) (by simp only [results, Tryz.results10, imB]; go_simp) rfl ?_
                  rw [← HQ.out, (HF.out).1, (HF.out).2]
                  refine ⟨?_, .inl ⟨by decide, rfl⟩⟩
                  exact Tn.own HT5.out (show Tn w5 (((((w5.setCell ⟨W.heap.size, 0, none⟩ (.int .i64 0)).setCell ⟨W.heap.size, 1, none⟩ (.int .i64 0)).setCell ⟨W.heap.size, 2, none⟩ (.slice none 0 0)).setCell ⟨W.heap.size, 3, none⟩ (.int .i64 1)).setCell ⟨W.heap.size, 4, none⟩ (.int .i64 (s.size : Int))) [W.heap.size] from (((((Tn.refl w5 _).st (by simp)).st (by simp)).st (by simp)).st (by simp)).st (by simp)) (by intro i hi; simp at hi; left; omega)
                · rw [hq] at e2 e3 e5
                  have hqn : ¬ s.size ≤ q := Nat.not_le.2 e2
                  have hqn1 := ar_nle e2
                  have hqn2 := ar_nle2 e2 hq
                  have hqn3 := ar_gt e2
                  have wq : IntKind.i64.wrap ((pp : Int) + (m : Int)) = (q : Int) := ar_sum hq (ar_2000 e2 HS1.out)
                  obtain ⟨v, hv⟩ : ∃ v, bt s q = v := ⟨_, rfl⟩
                  have y := bt_cell s q e2 hv
                  rw [hv] at e3
                  have HF := Lib.hid (And.intro e4 e5)
                  by_cases h7 : m = 7
                  · subst h7
                    rw [show ((7 : Nat) : Int) = 7 from rfl] at a1 hqn2 wq
                    have f1 : ((v : Int) != 1) = true := bn_ne (c := 1) e3
                    have f2 : ((v : Int) == 1) = false := be_ne (c := 1) e3
                    have f3 : ¬ (v : Int) = 1 := nn_ne (c := 1) e3
                    clear e1 e3 e4 e5 hq hkk hmk hm hm8 HPRE HEND hv d8
                    go_wp2_with fail
                    refine (KB.out 2 (q : Nat) _).mono ?_
                    rintro e w5 ⟨rfl, g5⟩
                    have T5 := HD.out.T.grown g5
                    have q0 := T5.rc0
                    have q1 := T5.rc1
                    have q2 := T5.rc2
                    have q3 := T5.rc3
                    have q4 := T5.rc4
                    have f0 := T5.rfree 0
                    have f1 := T5.rfree 1
                    have f2 := T5.rfree 2
                    have f3 := T5.rfree 3
                    have f4 := T5.rfree 4
                    have HT5 := Lib.hid T5.g
                    clear T5 g5
                    go_wp2
                    refine bodyPost_ret (v := .agg (imB 2 (q : Nat))) (by simp only [results, Tryz.results10, imB]; go_simp) rfl ?_
                    rw [← HQ.out, (HF.out).1, (HF.out).2]
                    refine ⟨?_, .inl ⟨by decide, rfl⟩⟩
                    exact Tn.own HT5.out (show Tn w5 (((((w5.setCell ⟨W.heap.size, 0, none⟩ (.int .i64 0)).setCell ⟨W.heap.size, 1, none⟩ (.int .i64 0)).setCell ⟨W.heap.size, 2, none⟩ (.slice none 0 0)).setCell ⟨W.heap.size, 3, none⟩ (.int .i64 2)).setCell ⟨W.heap.size, 4, none⟩ (.int .i64 (q : Nat))) [W.heap.size] from (((((Tn.refl w5 _).st (by simp)).st (by simp)).st (by simp)).st (by simp)).st (by simp)) (by intro i hi; simp at hi; left; omega)
                  · have ez : endB m = 0 := if_neg h7
                    rw [ez] at e3
                    have f1 : ((v : Int) != 0) = true := bn_ne (c := 0) e3
                    have f2 : ((v : Int) == 0) = false := be_ne (c := 0) e3
                    have f3 : ¬ (v : Int) = 0 := nn_ne (c := 0) e3
                    have e7 : ((m : Int) == 7) = false := be_ne (c := 7) h7
                    have n7 : ¬ (m : Int) = 7 := nn_ne (c := 7) h7
                    have l7 : (m : Int) < 7 := ar_lt7 hm h7
                    clear e1 e3 e4 e5 hq hkk hmk hm hm8 HPRE HEND hv ez h7
                    go_wp2_with fail
                    refine (KB.out 2 (q : Nat) _).mono ?_
                    rintro e w5 ⟨rfl, g5⟩
                    have T5 := HD.out.T.grown g5
                    have q0 := T5.rc0
                    have q1 := T5.rc1
                    have q2 := T5.rc2
                    have q3 := T5.rc3
                    have q4 := T5.rc4
                    have f0 := T5.rfree 0
                    have f1 := T5.rfree 1
                    have f2 := T5.rfree 2
                    have f3 := T5.rfree 3
                    have f4 := T5.rfree 4
                    have HT5 := Lib.hid T5.g
                    clear T5 g5
                    go_wp2
                    refine bodyPost_ret (v := .agg (imB 2 (q : Nat))) (by simp only [results, Tryz.results10, imB]; go_simp) rfl ?_
                    rw [← HQ.out, (HF.out).1, (HF.out).2]
                    refine ⟨?_, .inl ⟨by decide, rfl⟩⟩
                    exact Tn.own HT5.out (show Tn w5 (((((w5.setCell ⟨W.heap.size, 0, none⟩ (.int .i64 0)).setCell ⟨W.heap.size, 1, none⟩ (.int .i64 0)).setCell ⟨W.heap.size, 2, none⟩ (.slice none 0 0)).setCell ⟨W.heap.size, 3, none⟩ (.int .i64 2)).setCell ⟨W.heap.size, 4, none⟩ (.int .i64 (q : Nat))) [W.heap.size] from (((((Tn.refl w5 _).st (by simp)).st (by simp)).st (by simp)).st (by simp)).st (by simp)) (by intro i hi; simp at hi; left; omega)
            · obtain rfl : m = 8 := Nat.le_antisymm hm8 (Nat.not_lt.1 hm)
              have HG := Lib.hid (show f = 0 from by
                rcases HEND.out with ⟨_, e2, _⟩ | ⟨e1, _⟩ | ⟨e1, _⟩
                · exact e2
                · exfalso; omega
                · exfalso; omega)
              have T := HD.out.T
              have o0 := T.oc0
              have o1 := T.oc1
              have o2 := T.oc2
              have o3 := T.oc3
              have o4 := T.oc4
              rw [HI.out] at o2
              have q0 := T.rc0
              have q1 := T.rc1
              have q2 := T.rc2
              have q3 := T.rc3
              have q4 := T.rc4
              have f0 := T.rfree 0
              have f1 := T.rfree 1
              have f2 := T.rfree 2
              have f3 := T.rfree 3
              have f4 := T.rfree 4
              have ro := T.ro
              have ro' : ¬ ob = W.heap.size := fun h => ro h.symm
              have rlt := blk_lt T.frs
              clear T hm8 hmk hm HPRE HEND
              go_wp2
              refine bodyPost_ret (v := .agg #[.int .i64 w, .int .i64 h, .slice La i Lc, .int .i64 0, .int .i64 0]) (by simp only [results, Tryz.results10]; go_simp) rfl ?_
              rw [← HQ.out, HG.out]
              have t6 := Tn.own HD.out.T.g (show Tn wr (((((wr.setCell ⟨W.heap.size, 0, none⟩ (.int .i64 w)).setCell ⟨W.heap.size, 1, none⟩ (.int .i64 h)).setCell ⟨W.heap.size, 2, none⟩ (.slice La i Lc)).setCell ⟨W.heap.size, 3, none⟩ (.int .i64 0)).setCell ⟨W.heap.size, 4, none⟩ (.int .i64 0)) [W.heap.size] from (((((Tn.refl wr _).st (by simp)).st (by simp)).st (by simp)).st (by simp)).st (by simp)) (by intro i hi; simp at hi; left; omega)
              refine ⟨t6, .inr ⟨rfl, _, rfl, ?_⟩⟩
              rw [qL_len]
              have T := HD.out.T
              rw [← HRR.out] at T
              have hii : (sq s j).i = i := by rw [HRR.out]; exact HI.out
              rw [hii] at T
              have hW := T.Wh
              have hB := T.rlt
              have o5 := ownsRow_setCell_below (ownsRow_setCell_below (ownsRow_setCell_below (ownsRow_setCell_below (ownsRow_setCell_below T.own (a := ⟨W.heap.size, 0, none⟩) hB (.int .i64 w)) (a := ⟨W.heap.size, 1, none⟩) hB (.int .i64 h)) (a := ⟨W.heap.size, 2, none⟩) hB (.slice La i Lc)) (a := ⟨W.heap.size, 3, none⟩) hB (.int .i64 0)) (a := ⟨W.heap.size, 4, none⟩) hB (.int .i64 0)
              exact o5.mono (Nat.le_of_lt hB)
        · rw [hi] at h1
          rw [hpp] at h2 ⊢
          have d2 : decide ((i : Int) < (n : Int)) = true := ar_lt h1
          have d3 : decide ((s.size : Int) ≤ (pp : Int)) = true := ar_le h2
          have HF := Lib.hid (And.intro h3 h4)
          clear h3 h4 hok hR hpp hi
          go_wp2_with fail
          refine (KB.out 1 (s.size : Int) _).mono ?_
          rintro e w5 ⟨rfl, g5⟩
          have T5 := HD.out.T.grown g5
          have q0 := T5.rc0
          have q1 := T5.rc1
          have q2 := T5.rc2
          have q3 := T5.rc3
          have q4 := T5.rc4
          have f0 := T5.rfree 0
          have f1 := T5.rfree 1
          have f2 := T5.rfree 2
          have f3 := T5.rfree 3
          have f4 := T5.rfree 4
          have HT5 := Lib.hid T5.g
          clear T5 g5
          go_wp2
          refine bodyPost_ret (v := .agg (imB 1 (s.size : Int))) (by simp only [results, Tryz.results10, imB]; go_simp) rfl ?_
          rw [← HQ.out, (HF.out).1, (HF.out).2]
          refine ⟨?_, .inl ⟨by decide, rfl⟩⟩
          exact Tn.own HT5.out (show Tn w5 (((((w5.setCell ⟨W.heap.size, 0, none⟩ (.int .i64 0)).setCell ⟨W.heap.size, 1, none⟩ (.int .i64 0)).setCell ⟨W.heap.size, 2, none⟩ (.slice none 0 0)).setCell ⟨W.heap.size, 3, none⟩ (.int .i64 1)).setCell ⟨W.heap.size, 4, none⟩ (.int .i64 (s.size : Int))) [W.heap.size] from (((((Tn.refl w5 _).st (by simp)).st (by simp)).st (by simp)).st (by simp)).st (by simp)) (by intro i hi; simp at hi; left; omega)
        · rw [hi] at h1
          have KS := fun u (S : SnD gs R.seen u) => (HST.out R.p gs R.last R.seen u h2 hok.last hok.seen S).2 h3
          rw [hpp] at h2 KS ⊢
          have a0 := blk_cell HD.out.l 0
          have a1 := blk_cell HD.out.l 1
          have a2 := blk_cell HD.out.l 2
          have a3 := blk_cell HD.out.l 3
          unfold cC at a0 a1 a2 a3
          simp only [List.getElem?_toArray, List.getElem?_cons_succ, List.getElem?_cons_zero] at a0 a1 a2 a3
          have KS1 := KS wr HD.out.s.sn
          unfold cV cQ at KS1
          have KS1 := Lib.hid KS1
          have d2 : decide ((i : Int) < (n : Int)) = true := ar_lt h1
          have d3 : decide ((s.size : Int) ≤ (pp : Int)) = false := ar_gt h2
          have HF := Lib.hid (And.intro h4 h5)
          have h2' : ¬ s.size ≤ pp := Nat.not_le.2 h2
          clear h2 h3 h4 h5 hok hR hpp hi KS
          go_wp2_with fail
          refine KS1.out.mono ?_
          rintro e w7 ⟨rfl, g7⟩
          have g8 := gb_trans g7 (World.grownBy_alloc w7 (.cells #[.int .u8 0, .int .u8 0, .int .u8 0, .int .u8 0] 67) none)
          have HD8 := Lib.hid (HD.out.kept g8)
          clear KS1 a0 a1 a2 a3 o0 o1 o2 d2 d3 g7 g8 HD
          go_wp2_with fail
          refine (KB.out 1 (s.size : Int) _).mono ?_
          rintro e w5 ⟨rfl, g5⟩
          have T5 := HD8.out.T.grown g5
          have q0 := T5.rc0
          have q1 := T5.rc1
          have q2 := T5.rc2
          have q3 := T5.rc3
          have q4 := T5.rc4
          have f0 := T5.rfree 0
          have f1 := T5.rfree 1
          have f2 := T5.rfree 2
          have f3 := T5.rfree 3
          have f4 := T5.rfree 4
          have HT5 := Lib.hid T5.g
          clear T5 g5
          go_wp2
          refine bodyPost_ret (v := .agg (imB 1 (s.size : Int))) (by simp only [results, Tryz.results10, imB]; go_simp) rfl ?_
          rw [← HQ.out, (HF.out).1, (HF.out).2]
          refine ⟨?_, .inl ⟨by decide, rfl⟩⟩
          exact Tn.own HT5.out (show Tn w5 (((((w5.setCell ⟨W.heap.size, 0, none⟩ (.int .i64 0)).setCell ⟨W.heap.size, 1, none⟩ (.int .i64 0)).setCell ⟨W.heap.size, 2, none⟩ (.slice none 0 0)).setCell ⟨W.heap.size, 3, none⟩ (.int .i64 1)).setCell ⟨W.heap.size, 4, none⟩ (.int .i64 (s.size : Int))) [W.heap.size] from (((((Tn.refl w5 _).st (by simp)).st (by simp)).st (by simp)).st (by simp)).st (by simp)) (by intro i hi; simp at hi; left; omega)
        · rw [hi] at h1
          have KS := fun u (S : SnD gs R.seen u) => (HST.out R.p gs R.last R.seen u h2 hok.last hok.seen S).1 h3
          obtain ⟨t, ht⟩ : ∃ i, tms (bt s R.p) = i := ⟨_, rfl⟩
          obtain ⟨b, hb⟩ : ∃ i, nb (bt s R.p) = i := ⟨_, rfl⟩
          obtain ⟨c, hc⟩ : ∃ c, colQ s R.p R.last R.seen = c := ⟨_, rfl⟩
          rw [ht, hi] at h4
          rw [ht, hb, hc] at KS
          rw [hpp] at h2 h6 KS ⊢
          have a0 := blk_cell HD.out.l 0
          have a1 := blk_cell HD.out.l 1
          have a2 := blk_cell HD.out.l 2
          have a3 := blk_cell HD.out.l 3
          unfold cC at a0 a1 a2 a3
          simp only [List.getElem?_toArray, List.getElem?_cons_succ, List.getElem?_cons_zero] at a0 a1 a2 a3
          have KS1 := KS wr HD.out.s.sn
          unfold cV cQ at KS1
          have KS1 := Lib.hid KS1
          have d2 : decide ((i : Int) < (n : Int)) = true := ar_lt h1
          have d3 : decide ((s.size : Int) ≤ (pp : Int)) = false := ar_gt h2
          have d4 : decide ((n : Int) - (i : Int) < (t : Int)) = true := decide_eq_true (ar_ngt h4 hij)
          have d4' : (n : Int) - (i : Int) < (t : Int) := ar_ngt h4 hij
          have wni : IntKind.i64.wrap ((n : Int) - (i : Int)) = (n : Int) - (i : Int) := ar_sub hij hn6
          have HF := Lib.hid (And.intro h5 h6)
          have h2' : ¬ s.size ≤ pp := Nat.not_le.2 h2
          clear h2 h3 h4 h5 h6 hok hR hpp KS ht hb hc
          go_wp2_with fail
          refine KS1.out.mono ?_
          rintro e w7 ⟨rfl, g7⟩
          have g8 := gb_trans g7 (World.grownBy_alloc w7 (.cells #[.int .u8 c.r, .int .u8 c.g, .int .u8 c.b, .int .u8 c.a] 67) none)
          have HD8 := Lib.hid (HD.out.kept g8)
          have v0 := HD8.out.T.oc0
          have v1 := HD8.out.T.oc1
          have v2 := HD8.out.T.oc2
          rw [hi] at v2
          clear KS1 a0 a1 a2 a3 o0 o1 o2 d2 d3 g7 g8 HD hi
          go_wp2_with fail
          clear v0 v1 v2
          refine (KB.out 2 (pp : Nat) _).mono ?_
          rintro e w5 ⟨rfl, g5⟩
          have T5 := HD8.out.T.grown g5
          have q0 := T5.rc0
          have q1 := T5.rc1
          have q2 := T5.rc2
          have q3 := T5.rc3
          have q4 := T5.rc4
          have f0 := T5.rfree 0
          have f1 := T5.rfree 1
          have f2 := T5.rfree 2
          have f3 := T5.rfree 3
          have f4 := T5.rfree 4
          have HT5 := Lib.hid T5.g
          clear T5 g5
          go_wp2
          refine bodyPost_ret (v := .agg (imB 2 (pp : Nat))) (by simp only [results, Tryz.results10, imB]; go_simp) rfl ?_
          rw [← HQ.out, (HF.out).1, (HF.out).2]
          refine ⟨?_, .inl ⟨by decide, rfl⟩⟩
          exact Tn.own HT5.out (show Tn w5 (((((w5.setCell ⟨W.heap.size, 0, none⟩ (.int .i64 0)).setCell ⟨W.heap.size, 1, none⟩ (.int .i64 0)).setCell ⟨W.heap.size, 2, none⟩ (.slice none 0 0)).setCell ⟨W.heap.size, 3, none⟩ (.int .i64 2)).setCell ⟨W.heap.size, 4, none⟩ (.int .i64 (pp : Nat))) [W.heap.size] from (((((Tn.refl w5 _).st (by simp)).st (by simp)).st (by simp)).st (by simp)).st (by simp)) (by intro i hi; simp at hi; left; omega)

end Go.Proofs.YtmhghkgcfgacdaaGreat.Qo
