/- Layer 10: PaletteReads, walked: way B (written by wip/gen/pal_reads.py). -/
import Derived.Test.YtljbhahdaepecaaPalS0
namespace Go.Proofs.Ytljbhahdaepecaa.Pa
open Go.ChangeShapes Go.WideShapes Go.ChangeAt Go.RowKit
open Go.Proofs.Ytljbhahdaepecaa.Sc Go.Proofs.Ytljbhahdaepecaa.Le
set_option linter.unusedVariables false

set_option maxRecDepth 100000 in
set_option maxHeartbeats 4000000 in
theorem reads_B (m len cap : Nat) (a : Option Addr) (bo off : Nat) (s : ByteArray) (C : Nat → Nat → Int) (N kd sv : Int) (W : World) (m1 : 1 ≤ m) (m2 : m ≤ 255) (hlen : len ≤ 40) (hs : s.size ≤ 300) (ha : 0 < len → a = some ⟨bo, off, none⟩) (hC : ColsAt bo off len C W) (hCol : ∀ i, i < len → Col (C i))
    (hkd : 2 ≤ kd ∧ kd ≤ 5) (hN : 0 ≤ N) (hf : (m : Int) - (min len m : Nat) < N) (hsv : (sv == 0) = false) (KS : ∀ u, Calls Try.prog 9 #[.int .i64 kd] u fun e w' => e = .returned (.int .i64 sv) ∧ u = w') :
    Calls Try.prog 4 #[.int .u8 m, .slice a len cap, .string s, .int .i64 N, .int .i64 kd] W fun e w' => e = .returned (.bool true) ∧ W.grownBy w' none := by
  obtain ⟨i0, hi, hz0, hz1, hz2⟩ := info_parts rowC
  have HI0 := Lib.hid hi
  have HZ0 := Lib.hid hz0
  have HZ1 := Lib.hid hz1
  have HZ2 := Lib.hid hz2
  have AW := Lib.hid (fun u => awake_calls u)
  have KN := Lib.hid (fun u => new_calls 0 0 2000 1000 u)
  have t0 := LB_new m (by omega)
  have KP := Lib.hid (fun l u (hl : Led l (St.new 0 0 2000 1000).ls u) => new_yes l (St.new 0 0 2000 1000) m u hl (St.new_ok (by decide) (by decide) (by decide) (by decide)) m1 (by omega) (by rw [t0]))
  have T0 := Lib.hid t0
  have KS' := Lib.hid KS
  have HAD := Lib.hid ha
  have HC := Lib.hid hC
  have HL := Lib.hid hCol
  have KSN := Lib.hid (fun l u => Sr.snew_calls l s u (by omega))
  have d1 : decide (40 < (len : Int)) = false := decide_eq_false (by omega)
  have d2 : decide (300 < (s.size : Int)) = false := decide_eq_false (by omega)
  have d3 : ((m : Int) == 0) = false := by rw [beq_eq_false_iff_ne]; omega
  have b1 : (1 : Int) ≤ m := by omega
  have b2 : (m : Int) ≤ 255 := by omega
  skip
  clear hi hz0 hz1 hz2 t0 KS ha hC hCol
  go_enter Try.func4, Try.ntmps4
  go_wp2_with fail
  refine (KN.out _).mono ?_
  rintro e w1 ⟨l, rfl, hl, g1, hs1⟩
  have KPl := Lib.hid (KP.out l w1 hl)
  have HG1 := Lib.hid g1
  have llt := hl.lt
  clear hl g1
  go_wp2_with fail
  refine KPl.out.mono ?_
  rintro e w2 ⟨p, b, g, rfl, ⟨hp, hb, hl2⟩, g2, hs2, hs3, hs4, pb, pg⟩
  rw [T0.out] at hl2
  have HG2 := Lib.hid (gb_own HG1.out hs1 g2)
  have HPO := Lib.hid (show Po p b l g 0 m (Bu.rep 0 (4 * m)) w2 from ⟨hp, hb, by rw [Bu.rep_size], by omega, by omega, pb, by omega, pg⟩)
  have HLE := Lib.hid hl2
  have KB := bytes_calls l _ w2 hl2
  have e4 : (LB ((4 * m : Nat) : Int) 0).ls.by_ = 4 * (m : Int) := by show ((4 * m : Nat) : Int) = _; omega
  rw [e4] at KB
  have KBh := Lib.hid KB
  have plt := blk_lt hp
  have blt := hb.lt
  have glt := hb.glt
  have llt2 := hl2.lt
  have hw12 := g2.size
  have hWl : W.heap.size ≤ l := hs1
  have hWp : W.heap.size ≤ p := by have := HG1.out.size; omega
  have hWb : W.heap.size ≤ b := by have := HG1.out.size; omega
  have hWg : W.heap.size ≤ g := by have := HG1.out.size; omega
  clear hp hb hl2 g2 KB e4
  go_wp2_with fail
  refine KBh.out.mono ?_
  rintro e w' ⟨rfl, rfl⟩
  go_wp2_with fail
  have HI1 := Lib.hid (show WI2 W p b l g m C w2.heap.size 0 (.slice none 0 0) w2 from ⟨⟨_, by rw [Nat.zero_min]; exact HPO.out, fun i hi => by omega⟩, HLE.out, ⟨by simp [cellsOf], .inl ⟨rfl, by omega⟩⟩, HG2.out, Nat.le_refl _⟩)
  go_loopg [14, 67] 101 (fun q vv iv wr => ∃ (k : Nat) (v : Value), k ≤ len ∧ q = 101 - k ∧ iv = .int .i64 k ∧ v = vv ∧ WI2 W p b l g m C w2.heap.size k v wr)
  case atStart => exact ⟨0, _, by omega, rfl, rfl, rfl, HI1.out⟩
  case round =>
    obtain ⟨k, v, hk, rfl, rfl, rfl, J⟩ := hrel
    have HJ := Lib.hid J
    obtain ⟨va, vc, hv⟩ := own_form J.own
    clear J HI1
    by_cases hkl : k < len
    · obtain rfl := HAD.out (by omega)
      have z0 := HJ.out.gb.cell (HC.out k hkl 0 (by decide)) (by simp)
      have z1 := HJ.out.gb.cell (HC.out k hkl 1 (by decide)) (by simp)
      have z2 := HJ.out.gb.cell (HC.out k hkl 2 (by decide)) (by simp)
      have z3 := HJ.out.gb.cell (HC.out k hkl 3 (by decide)) (by simp)
      rw [Nat.add_zero] at z0
      have hcol := HL.out k hkl
      have q0 := hcol 0 (by decide)
      have q1 := hcol 1 (by decide)
      have q2 := hcol 2 (by decide)
      have q3 := hcol 3 (by decide)
      obtain ⟨c0, f0⟩ : ∃ z, C k 0 = z := ⟨_, rfl⟩
      obtain ⟨c1, f1⟩ : ∃ z, C k 1 = z := ⟨_, rfl⟩
      obtain ⟨c2, f2⟩ : ∃ z, C k 2 = z := ⟨_, rfl⟩
      obtain ⟨c3, f3⟩ : ∃ z, C k 3 = z := ⟨_, rfl⟩
      rw [f0] at z0 q0
      rw [f1] at z1 q1
      rw [f2] at z2 q2
      rw [f3] at z3 q3
      obtain ⟨S, hP, hE⟩ := HJ.out.po
      by_cases hkm : k < m
      · have hmin : min k m = k := by omega
        rw [hmin] at hv hP hE
        subst hv
        have KA := Lib.hid (fun u (hu : Po p b l g k m S u) => add_is p b l g k m S C c0 c1 c2 c3 u hu hkm hE q0 q1 q2 q3 f0 f1 f2 f3)
        have HP := Lib.hid hP
        have HF := Lib.hid (And.intro f0 (And.intro f1 (And.intro f2 f3)))
        have d5 : decide ((k : Int) < (m : Int)) = true := decide_eq_true (by omega)
        have d6 : decide (k < m) = true := decide_eq_true hkm
        have hkm' : (k : Int) < m := by omega
        clear hP hE f0 f1 f2 f3 q0 q1 q2 q3 hcol hmin
        go_wp2_with fail
        have ga := World.grownBy_alloc wr (.cells #[.int .u8 c0, .int .u8 c1, .int .u8 c2, .int .u8 c3] 24) none
        have hX := blk_at (w := wr) (o := .cells #[.int .u8 c0, .int .u8 c1, .int .u8 c2, .int .u8 c3] 24)
        generalize wr.alloc (.cells #[.int .u8 c0, .int .u8 c1, .int .u8 c2, .int .u8 c3] 24) = w5 at ga hX ⊢
        have HX := Lib.hid hX
        have HGa := Lib.hid ga
        have KAh := Lib.hid (KA.out w5 (HP.out.grown ga (by simp) (by simp) (by simp)))
        clear ga hX z0 z1 z2 z3
        refine KAh.out.mono ?_
        rintro e w6 ⟨rfl, hp6⟩
        have HA6 := Lib.hid (WI2.add HJ.out hkm HGa.out hp6 plt glt hWp hWg)
        obtain ⟨S6, _, _, t6⟩ := hp6
        have X6 := (t6.block _ (blk_lt HX.out) (by have h1 := HJ.out.bs; simp; omega)).trans HX.out
        have x0 : w6.cell? ⟨wr.heap.size, 0, none⟩ = some (.int .u8 c0) := blk_cell X6 0
        have x1 : w6.cell? ⟨wr.heap.size, 1, none⟩ = some (.int .u8 c1) := blk_cell X6 1
        have x2 : w6.cell? ⟨wr.heap.size, 2, none⟩ = some (.int .u8 c2) := blk_cell X6 2
        have x3 : w6.cell? ⟨wr.heap.size, 3, none⟩ = some (.int .u8 c3) := blk_cell X6 3
        clear t6 X6
        go_wp2_with (at_builtin; refine wpList_append_own _ rfl (.tmp 85) (.tmp 87) 30 rfl w2.heap.size 24 i0 (.agg #[.int .u8 0, .int .u8 0, .int .u8 0, .int .u8 0]) 4 4 undC HI0.out HZ0.out HZ1.out HZ2.out rfl (by decide) _ k (cellsOf C k) rfl (HA6.out.own.alloc _) ⟨w6.heap.size, 0, none⟩ 1 1 [.int .u8 c0, .int .u8 c1, .int .u8 c2, .int .u8 c3] rfl rfl four_news four_one (by unfold maxLen; omega) (by omega) (by have := HA6.out.bs; rw [size_alloc]; omega) ?_)
        intro v' w8 hown hgrow hnil
        have HN := Lib.hid (WMid.app HA6.out hkm (World.grownBy_alloc w6 (.cells #[.int .u8 c0, .int .u8 c1, .int .u8 c2, .int .u8 c3] 24) none) (by have := hown; rw [← HF.out.1, ← HF.out.2.1, ← HF.out.2.2.1, ← HF.out.2.2.2] at this; exact this) hgrow plt blt glt llt2 HG2.out.size)
        clear hown hgrow hnil
        go_wp2
        go_roundg (101 - (k + 1))
        case measure => omega
        case rel => exact ⟨k + 1, v', by omega, rfl, by go_num, rfl, HN.out⟩
      · have hmin : min k m = m := by omega
        rw [hmin] at hv hP hE
        subst hv
        have KA := Lib.hid (fun u (hu : Po p b l g m m S u) => add_no p b l g m m S c0 c1 c2 c3 u hu rfl)
        have HP := Lib.hid hP
        have d5 : decide ((m : Int) < (m : Int)) = false := decide_eq_false (by omega)
        have d6 : decide (m < m) = false := decide_eq_false (by omega)
        clear hP hE f0 f1 f2 f3 q0 q1 q2 q3 hcol hmin
        go_wp2_with fail
        have ga := World.grownBy_alloc wr (.cells #[.int .u8 c0, .int .u8 c1, .int .u8 c2, .int .u8 c3] 24) none
        have HGa := Lib.hid ga
        have KAh := Lib.hid (KA.out _ (HP.out.grown ga (by simp) (by simp) (by simp)))
        clear ga
        refine KAh.out.mono ?_
        rintro e w6 ⟨rfl, g6⟩
        have HN := Lib.hid (WI2.same HJ.out (by omega) (gb_trans HGa.out g6))
        clear g6
        go_wp2
        go_roundg (101 - (k + 1))
        case measure => omega
        case rel => exact ⟨k + 1, _, by omega, rfl, by go_num, rfl, HN.out⟩
    · obtain rfl : k = len := by omega
      obtain ⟨n0, hn0⟩ : ∃ n, min k m = n := ⟨_, rfl⟩
      rw [hn0] at hv
      subst hv
      obtain ⟨S, hP, hE⟩ := HJ.out.po
      rw [hn0] at hP hE hf
      have HSt := Lib.hid (show WEnd W p b l g m n0 C w2.heap.size (.slice va n0 vc) wr from ⟨⟨S, hP, hE⟩, ⟨0, by decide, by decide, HJ.out.led⟩, by have := HJ.out.own; rw [hn0] at this; exact this, HJ.out.gb, HJ.out.bs⟩)
      have KRD := Lib.hid (fun x u (hu : Po p b l g n0 m S u) => read_full p b l g x n0 m S N kd u hu hkd hN hf)
      have HP := Lib.hid hP
      have hnm : n0 ≤ m := hP.le
      clear hP hE hn0 HJ
      go_wp2_with fail
      refine (KSN.out l wr).mono ?_
      rintro e w7 ⟨x, rfl, _, g7, hx⟩
      have HS7 := Lib.hid (HSt.out.grown g7)
      have HP7 := Lib.hid (HP.out.grown g7 (by simp) (by simp) (by simp))
      clear g7
      go_wp2_with fail
      refine (KRD.out x w7 HP7.out).mono ?_
      rintro e w8 ⟨rfl, g8⟩
      have HS8 := Lib.hid (HS7.out.grown g8)
      clear g8 HSt HS7
      have dN : decide (N < 0) = false := decide_eq_false (by omega)
      have dF : decide ((m : Int) - (n0 : Int) < N) = true := decide_eq_true hf
      go_wp2_with fail
      refine (KS'.out _).mono ?_
      rintro e w' ⟨rfl, rfl⟩
      have KLn := Lib.hid (fun u (hu : WEnd W p b l g m n0 C w2.heap.size (.slice va n0 vc) u) => plen_calls p b (n0 : Int) u (by obtain ⟨S, h1, _⟩ := hu.po; exact h1.blk))
      go_wp2_with fail
      refine (KLn.out _ HS8.out).mono ?_
      rintro e w' ⟨rfl, rfl⟩
      go_wp2_with fail
      go_loopg [153] 300 (fun q iv wr => ∃ i : Nat, i ≤ n0 ∧ q = 300 - i ∧ iv = .int .i64 i ∧ WEnd W p b l g m n0 C w2.heap.size (.slice va n0 vc) wr)
      case atStart => exact ⟨0, by omega, rfl, rfl, HS8.out⟩
      case round =>
        obtain ⟨i, hin, rfl, rfl, J⟩ := hrel
        by_cases hk2 : i < n0
        · obtain ⟨gq, rfl, hca⟩ := own_cells J.own (by omega)
          have z0 := hca i hk2 0 (by decide)
          have z1 := hca i hk2 1 (by decide)
          have z2 := hca i hk2 2 (by decide)
          have z3 := hca i hk2 3 (by decide)
          rw [Nat.add_zero] at z0
          obtain ⟨c0, f0⟩ : ∃ z, C i 0 = z := ⟨_, rfl⟩
          obtain ⟨c1, f1⟩ : ∃ z, C i 1 = z := ⟨_, rfl⟩
          obtain ⟨c2, f2⟩ : ∃ z, C i 2 = z := ⟨_, rfl⟩
          obtain ⟨c3, f3⟩ : ∃ z, C i 3 = z := ⟨_, rfl⟩
          rw [f0] at z0
          rw [f1] at z1
          rw [f2] at z2
          rw [f3] at z3
          have y0 := z0
          have y1 := z1
          have y2 := z2
          have y3 := z3
          rw [Nat.zero_add] at y0 y1 y2 y3
          obtain ⟨S, hP, hE⟩ := J.po
          have KO := Lib.hid (fun u (hu : Po p b l g n0 m S u) => pof_ent p b l g n0 m i S C c0 c1 c2 c3 u hu hk2 hE f0 f1 f2 f3)
          have HP := Lib.hid hP
          have HJ := Lib.hid J
          clear hP hE f0 f1 f2 f3 J hca
          go_wp2_with fail
          have ga := World.grownBy_alloc wr (.cells #[.int .u8 c0, .int .u8 c1, .int .u8 c2, .int .u8 c3] 24) none
          have hX := blk_at (w := wr) (o := .cells #[.int .u8 c0, .int .u8 c1, .int .u8 c2, .int .u8 c3] 24)
          generalize wr.alloc (.cells #[.int .u8 c0, .int .u8 c1, .int .u8 c2, .int .u8 c3] 24) = w20 at ga hX ⊢
          have HX := Lib.hid hX
          have HGa := Lib.hid ga
          have KOh := Lib.hid (KO.out w20 (HP.out.grown ga (by simp) (by simp) (by simp)))
          clear ga hX z0 z1 z2 z3 y0 y1 y2 y3
          refine KOh.out.mono ?_
          rintro e w21 ⟨rfl, g21⟩
          have X6 := old0 g21 HX.out (blk_lt HX.out) (by simp)
          have X7 := old0 (World.grownBy_alloc w21 (.cells #[.int .u8 c0, .int .u8 c1, .int .u8 c2, .int .u8 c3] 24) none) X6 (blk_lt X6) (by simp)
          have x0 : (w21.alloc (.cells #[.int .u8 c0, .int .u8 c1, .int .u8 c2, .int .u8 c3] 24)).cell? ⟨wr.heap.size, 0, none⟩ = some (.int .u8 c0) := blk_cell X7 0
          have x1 : (w21.alloc (.cells #[.int .u8 c0, .int .u8 c1, .int .u8 c2, .int .u8 c3] 24)).cell? ⟨wr.heap.size, 1, none⟩ = some (.int .u8 c1) := blk_cell X7 1
          have x2 : (w21.alloc (.cells #[.int .u8 c0, .int .u8 c1, .int .u8 c2, .int .u8 c3] 24)).cell? ⟨wr.heap.size, 2, none⟩ = some (.int .u8 c2) := blk_cell X7 2
          have x3 : (w21.alloc (.cells #[.int .u8 c0, .int .u8 c1, .int .u8 c2, .int .u8 c3] 24)).cell? ⟨wr.heap.size, 3, none⟩ = some (.int .u8 c3) := blk_cell X7 3
          have HG21 := Lib.hid g21
          clear g21 X6 X7
          go_wp2
          go_roundg (300 - (i + 1))
          case measure => omega
          case rel => exact ⟨i + 1, by omega, rfl, by go_num, (HJ.out.grown HGa.out).grown (gb_trans HG21.out (World.grownBy_alloc _ _ _))⟩
        · obtain rfl : n0 = i := by omega
          have HJ := Lib.hid J
          have KNo := Lib.hid (fun u (hu : WEnd W p b l g m n0 C w2.heap.size (.slice va n0 vc) u) => pof_no p b n0 (n0 : Int) u (by obtain ⟨S, h1, _⟩ := hu.po; exact h1.blk) (.inr (Int.le_refl _)))
          have KNm := Lib.hid (fun u (hu : WEnd W p b l g m n0 C w2.heap.size (.slice va n0 vc) u) => pof_no p b n0 (-1) u (by obtain ⟨S, h1, _⟩ := hu.po; exact h1.blk) (.inl (by decide)))
          have KF := Lib.hid (fun u (hu : WEnd W p b l g m n0 C w2.heap.size (.slice va n0 vc) u) => hu.free m2)
          clear J
          go_wp2_with fail
          refine (KNo.out _ HJ.out).mono ?_
          rintro e w22 ⟨rfl, g22⟩
          have HS22 := Lib.hid (HJ.out.grown g22)
          clear g22
          go_wp2_with fail
          have ga := World.grownBy_alloc w22 (.cells #[.int .u8 0, .int .u8 0, .int .u8 0, .int .u8 0] 24) none
          have hX := blk_at (w := w22) (o := .cells #[.int .u8 0, .int .u8 0, .int .u8 0, .int .u8 0] 24)
          generalize w22.alloc (.cells #[.int .u8 0, .int .u8 0, .int .u8 0, .int .u8 0] 24) = w23 at ga hX ⊢
          have HX := Lib.hid hX
          have HS23 := Lib.hid (HS22.out.grown ga)
          clear ga hX
          refine (KNm.out _ HS23.out).mono ?_
          rintro e w24 ⟨rfl, g24⟩
          have HS24 := Lib.hid (HS23.out.grown g24)
          have X6 := old0 g24 HX.out (blk_lt HX.out) (by simp)
          have X7 := old0 (World.grownBy_alloc w24 (.cells #[.int .u8 0, .int .u8 0, .int .u8 0, .int .u8 0] 24) none) X6 (blk_lt X6) (by simp)
          have x0 : (w24.alloc (.cells #[.int .u8 0, .int .u8 0, .int .u8 0, .int .u8 0] 24)).cell? ⟨w22.heap.size, 0, none⟩ = some (.int .u8 0) := blk_cell X7 0
          have x1 : (w24.alloc (.cells #[.int .u8 0, .int .u8 0, .int .u8 0, .int .u8 0] 24)).cell? ⟨w22.heap.size, 1, none⟩ = some (.int .u8 0) := blk_cell X7 1
          have x2 : (w24.alloc (.cells #[.int .u8 0, .int .u8 0, .int .u8 0, .int .u8 0] 24)).cell? ⟨w22.heap.size, 2, none⟩ = some (.int .u8 0) := blk_cell X7 2
          have x3 : (w24.alloc (.cells #[.int .u8 0, .int .u8 0, .int .u8 0, .int .u8 0] 24)).cell? ⟨w22.heap.size, 3, none⟩ = some (.int .u8 0) := blk_cell X7 3
          clear g24 X6 X7
          go_wp2_with fail
          have HS25 := Lib.hid (HS24.out.grown (World.grownBy_alloc w24 (.cells #[.int .u8 0, .int .u8 0, .int .u8 0, .int .u8 0] 24) none))
          refine (KF.out _ HS25.out).mono ?_
          rintro e w26 ⟨rfl, ⟨q1, q2, L, q3, q4⟩, t26⟩
          have HG26 := Lib.hid (Tn.own HS25.out.gb t26 (fun y hy => by
            simp at hy
            rcases hy with rfl | rfl | rfl
            · exact .inl hWp
            · exact .inl hWb
            · exact .inl hWl))
          have KB2 := bytes_calls l L w26 q4
          rw [q3] at KB2
          have H1 := Lib.hid q1
          have H2 := Lib.hid q2
          have KB2h := Lib.hid KB2
          clear q1 q2 q3 q4 t26 KB2 x0 x1 x2 x3
          go_wp2_with fail
          refine KB2h.out.mono ?_
          rintro e w' ⟨rfl, rfl⟩
          go_wp2_with fail
          refine (plen_calls p b 0 w26 H1.out).mono ?_
          rintro e w' ⟨rfl, rfl⟩
          go_wp2_with fail
          refine (add_freed p b l 0 0 0 0 w26 H1.out H2.out).mono ?_
          rintro e w27 ⟨rfl, g27⟩
          have H1' := Lib.hid (old0 g27 H1.out (blk_lt H1.out) (by simp))
          have H2' := Lib.hid (H2.out.grown g27 (by simp))
          have HG27 := Lib.hid (gb_trans HG26.out g27)
          clear g27
          go_wp2_with fail
          refine (pfree_no p b l w27 H1'.out H2'.out pb).mono ?_
          rintro e w28 ⟨rfl, t28⟩
          have HG28 := Lib.hid (Tn.own HG27.out t28 (fun y hy => by
            simp at hy
            subst hy
            exact .inl hWp))
          clear t28
          go_wp2_with fail
          refine (AW.out _).mono ?_
          rintro e w29 ⟨rfl, g29⟩
          have HG29 := Lib.hid (gb_trans HG28.out g29)
          clear g29
          go_wp2
          go_ret
          exact ⟨rfl, HG29.out⟩

end Go.Proofs.Ytljbhahdaepecaa.Pa
