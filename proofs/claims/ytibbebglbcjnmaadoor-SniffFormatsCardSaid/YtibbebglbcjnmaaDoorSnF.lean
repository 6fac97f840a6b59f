/- Layer 30: any bytes' format, and all whose signs they have: the law, walked. -/
import Derived.Test.YtibbebglbcjnmaaDoorSnL
import Derived.Test.YtibbebglbcjnmaaDoorSnM
import Derived.Test.YtibbebglbcjnmaaDoorSnP
import Derived.Maps.AppendAt
import Derived.RangeFuncBox
namespace Go.Proofs.YtibbebglbcjnmaaDoor.Sn
open Go.ChangeShapes Go.WideShapes Go.ChangeAt Go.RowKit Go.Shelf
open Go.Proofs.YtibbebglbcjnmaaDoor.Le Go.Proofs.YtibbebglbcjnmaaDoor.Tk
set_option linter.unusedVariables false
attribute [local go_sem] Oper.semAt_some

theorem lt_of {X : World} {D : Nat} {o : Obj} (h : X.heap[D]? = some o) : D < X.heap.size := (Array.getElem?_eq_some_iff.1 h).1
theorem fmts_big (s : ByteArray) (f : Int) (h : 3000 < s.size) (W : World) (HT : OrdT W) : Calls Tryd.prog 3 #[.string s, .int .i64 f] W fun e w' => e = .returned (.bool true) ∧ W.grownBy w' none := by
  have d0 : (3000 : Int) < (s.size : Int) := by omega
  have d1 : decide ((3000 : Int) < (s.size : Int)) = true := decide_eq_true d0
  have KW := Lib.hid (awake_calls W HT)
  clear HT
  refine (callsIn_wide (n := 8)).1 ?_
  refine callsIn_of_wp_marks Tryd.func3 rfl trivial ?_ rfl
  simp only [Tryd.ntmps3, List.size_toArray, List.length_cons, List.length_nil, Nat.reduceAdd, Nat.reduceSub, Array.replicate_succ, Array.replicate_zero, List.push_toArray, List.append_toArray, List.nil_append, List.cons_append]
  gi_wp2_with fail
  refine ⟨trivial, (callsIn_wide.2 KW.out).mono ?_⟩
  rintro e w1 ⟨rfl, g1⟩
  gi_wp2
  exact ⟨_, results_tmp rfl _ _ _, rfl, g1⟩

set_option maxRecDepth 100000 in
set_option maxHeartbeats 4000000 in
theorem fmts_small (s : ByteArray) (f : Int) (h : s.size ≤ 3000) (W : World) (HT : OrdT W) : Calls Tryd.prog 3 #[.string s, .int .i64 f] W fun e w' => e = .returned (.bool true) ∧ W.grownBy w' none := by
  have d0 : ¬ (3000 : Int) < (s.size : Int) := by omega
  have d1 : decide ((3000 : Int) < (s.size : Int)) = false := decide_eq_false d0
  have h63 : s.size ≤ 9223372036854775807 := by omega
  obtain ⟨B, HS, hB2⟩ := hs_all s h63
  have H2M := Lib.hid (two_at_most HS hB2)
  have KH := Lib.hid (fun j hj u => has_ord s B HS h63 j hj u)
  have KA := Lib.hid (fun u => all_calls s u)
  have KRA := Lib.hid (fun u => rall_calls s B (rhas_ord s B HS hB2) u)
  have KRF := Lib.hid (fun u => rformat_calls s B (rhas_ord s B HS hB2) u)
  have KF := Lib.hid (fun u (g : W.grownBy u none) => format_calls s B (has_ord s B HS h63) u (HT.grown g (fun b e => by cases e)))
  have KHA := fun u => has_any s B HS h63 f u
  have KRH := fun u => rhas_any s B HS hB2 f u
  obtain ⟨hb, hhb⟩ : ∃ b, hasB B f = b := ⟨_, rfl⟩
  rw [hhb] at KHA KRH
  have KHA := Lib.hid KHA
  have KRH := Lib.hid KRH
  have KW := Lib.hid (fun u (g : W.grownBy u none) => awake_calls u (HT.grown g (fun b e => by cases e)))
  have HT := Lib.hid HT
  have hne : ∀ x : Bool, (x != x) = false := fun x => by cases x <;> rfl
  clear HS hB2 h h63 hhb
  obtain ⟨i0, hi, hz0, hz1, hz2⟩ := infoI
  refine (callsIn_wide (n := 8)).1 ?_
  refine callsIn_of_wp_marks Tryd.func3 rfl trivial ?_ rfl
  simp only [Tryd.ntmps3, List.size_toArray, List.length_cons, List.length_nil, Nat.reduceAdd, Nat.reduceSub, Array.replicate_succ, Array.replicate_zero, List.push_toArray, List.append_toArray, List.nil_append, List.cons_append]
  gi_wp2_with fail
  refine ⟨trivial, (callsIn_wide.2 (KA.out _)).mono ?_⟩
  rintro e w1 ⟨rfl, rfl⟩
  have bL := (Boxed.new W 23 (.slice none 0 0)).alloc (.cells #[.string s] 9)
  have bS := Boxed.new (W.alloc (.cells #[.slice none 0 0] 23)) 9 (.string s)
  have g1 := gb_trans (World.grownBy_alloc W (.cells #[.slice none 0 0] 23) none) (World.grownBy_alloc _ (.cells #[.string s] 9) none)
  rw [size_alloc] at bS
  rw [size_alloc]
  have hz : ((W.alloc (.cells #[.slice none 0 0] 23)).alloc (.cells #[.string s] 9)).heap.size = W.heap.size + 2 := by rw [size_alloc, size_alloc]
  obtain ⟨w0, hw0⟩ : ∃ w0, (W.alloc (.cells #[.slice none 0 0] 23)).alloc (.cells #[.string s] 9) = w0 := ⟨_, rfl⟩
  rw [hw0] at bL bS g1 hz ⊢
  have FN := fnil 16 #[.pointer (some ⟨W.heap.size + 1, 0, none⟩)] w0
  have T1 : OrdT w0 := HT.out.grown g1 (fun b e => by cases e)
  clear hw0 KA
  gi_wp2
  clear FN
  refine wpIn_rangeFunc_ownF rfl (by decide) (gf := 16) (lb := #[.pointer (some ⟨W.heap.size + 1, 0, none⟩)]) rfl trivial (enters_of Tryd.func16 (by kernel_rfl) rfl)
    (all_stops 7 (by decide) s B (W.heap.size + 1) w0 bS T1 KH.out) Kb.trans (kb_b (by omega)) (Below.refl _ _) (fun _ => rfl)
    (fun pre X => ((∃ v, Boxed X W.heap.size 23 v ∧ X.ownsRow W.heap.size 3 1 v pre.length (pre.map iv) ∧ (v = .slice none 0 0 ↔ pre = [])) ∧ Boxed X (W.heap.size + 1) 9 (.string s)) ∧ W.grownBy X none)
    (fun _ _ _ => False)
    (((Own.from (holdsRow_own W.heap.size W.heap.size 23 3 1 (fun pre => pre.length) (fun pre => pre.map iv) (fun pre v => v = .slice none 0 0 ↔ pre = [])) _).and ((boxed_own _ _ _).from _)).and (own_gb (by omega)))
    (fun c s A B row hs hg hr => hs)
    ⟨⟨⟨_, bL, World.ownsRow_nil _ _ _ _, by simp⟩, bS⟩, g1⟩
    (fun x => { tmps := #[.string s, .int .i64 f, undef, undef, .bool false, .pointer (some ⟨W.heap.size, 0, none⟩), .func (.func 16) #[] #[.pointer (some ⟨W.heap.size + 1, 0, none⟩)], .int .i64 (x : Nat), undef, undef, .string s, .int .i64 (s.size : Nat), .bool false, undef, .string s, .func (.func 16) #[] #[.pointer (some ⟨W.heap.size + 1, 0, none⟩)], .func (.func 16) #[] #[.pointer (some ⟨W.heap.size + 1, 0, none⟩)], .bool false, .func (.func 16) #[] #[.pointer (some ⟨W.heap.size + 1, 0, none⟩)], .int .i64 (x : Nat), undef, undef, undef, undef, undef, undef, undef, undef, undef, undef, undef, undef, undef, undef, undef, undef, undef, undef, undef, undef, undef, undef, undef, undef, undef, undef, undef, undef, undef, undef, undef, undef, undef, undef, undef, undef, undef, undef, undef, undef, undef, undef, undef, undef, undef, undef, undef, undef, undef, undef, undef, undef, undef, undef, undef, undef, undef, undef, undef, undef, undef, undef, undef, undef, undef], defers := [] }) ?assign ?body ?done ?stop
  case assign =>
    intro l x X K hK
    gi_wp2
    exact hK
  case body =>
    rintro l pre x X ⟨⟨⟨v, hv, hrow, hnil⟩, b3⟩, g⟩ hlt
    have hc := hv.cell
    have hM : 8 ≤ maxLen := by decide
    gi_wp2_with (gi_at_builtin; refine wpListIn_append_own _ rfl _ _ 23 rfl W.heap.size 3 i0 (.int .i64 0) 1 8 undIp hi hz0 hz1 hz2 rfl (by decide) _ _ _ rfl (hrow.alloc _) ⟨X.heap.size, 0, none⟩ 1 1 [iv x] rfl rfl (cell_one_new _ _ _) (by simp [Value.oneCell', iv]) (by omega) (by omega) (by have := g.size; simp; omega) ?_; intro v' w1 hown' hgrow _; obtain ⟨g', cap', rfl⟩ := ownsRow_succ hown'; obtain ⟨hv1, hv2, hr2, hk2, hb2⟩ := hv.appended (by decide) hrow g.size (Nat.le_refl _) hown' hgrow; have hc1 := hv1.cell; have hf1 := hv1.frozen)
    have hx3 := ((b3.alloc _).kept hgrow (b3.not_row (by decide) hrow)).other (B := W.heap.size + 1) (show W.heap.size + 1 ≠ W.heap.size by omega) (.slice (some ⟨g', 0, none⟩) (pre.length + 1) cap')
    refine ⟨hk2, hx3.trans b3.symm, ⟨⟨_, hv2, by simpa using hr2, by simp⟩, hx3⟩, gb_own (gb_rowq (gb_trans g (World.grownBy_alloc _ _ _)) (hrow.alloc _) (Nat.le_refl _) hgrow) (Nat.le_refl _) (gb_set _ _ _ _)⟩
  case done =>
    rintro D xs X hD hxs ⟨⟨⟨v, hv, hrow, hnil⟩, b3⟩, g⟩ hK
    subst hxs
    obtain ⟨L, hL⟩ : ∃ L, (allL B).length = L := ⟨_, rfl⟩
    rename_i K0 hK0
    refine hK0 _ _ (wpIn_wide.2 ?_)
    clear hK0 K0
    obtain ⟨q, hq⟩ : ∃ q : Nat → Nat, ∀ i (hi : i < (allL B).length), (allL B)[i] = q i := ⟨fun i => (allL B).getD i 0, fun i hi => by simp [hi]⟩
    obtain ⟨a, c, rfl, hcl⟩ : ∃ a c, v = .slice a L c ∧ ∀ i, i < L → ∃ ga, a = some ⟨ga, 0, none⟩ ∧ X.cell? ⟨ga, i, none⟩ = some (.int .i64 (q i : Nat)) := by
      rcases hrow.2 with ⟨h1, h2⟩ | ⟨ga, cap, cur, h1, _⟩
      · exact ⟨none, 0, by rw [h1, ← hL, h2], fun i hi => by omega⟩
      · refine ⟨some ⟨ga, 0, none⟩, cap, by rw [h1, hL], fun i hi => ⟨ga, rfl, ?_⟩⟩
        have hi' : i < (allL B).length := by omega
        have h3 := World.ownsRow.cells hrow (g := ga) (by rw [h1]; rfl) i (.int .i64 (q i : Nat)) (by rw [List.getElem?_map, List.getElem?_eq_getElem hi', hq i hi']; rfl)
        have hadd : (⟨ga, 0, none⟩ : Addr).add i = ⟨ga, 0 + i, none⟩ := by unfold Addr.add; split <;> simp_all
        rw [hadd, Nat.zero_add] at h3
        exact h3
    have HV := Lib.hid hv
    have HCL := Lib.hid hcl
    have HD := Lib.hid hK
    have HG := Lib.hid g
    have HL := Lib.hid hL
    have HQ := Lib.hid hq
    have hL8 : L ≤ 8 := by rw [← hL]; exact List.length_filter_le _ _
    clear hv hrow hnil hcl hK g b3 hL hq
    go_wp2_with fail
    refine (KRA.out _).mono ?_
    rintro e w1 ⟨tv, rfl, Y1⟩
    obtain ⟨g2, c2, rfl⟩ := Y1.sh
    have HWC := Lib.hid (show ∀ i, i < L → w1.cell? ⟨g2, i, none⟩ = some (.int .i64 (q i : Nat)) from fun i hi => by
      have hi' : i < (allL B).length := by rw [HL.out]; exact hi
      rw [← HQ.out i hi']; exact Y1.cell i hi')
    have G1 := Lib.hid Y1.g
    rw [HL.out]
    have x5 := (HV.out.kept G1.out (by simp)).cell
    clear Y1
    go_wp2_with fail
    refine (KF.out _ (gb_trans HG.out G1.out)).mono ?_
    rintro e w2 ⟨rfl, k2⟩
    have G2 := Lib.hid k2
    clear k2 x5
    go_wp2_with fail
    refine (KRF.out _).mono ?_
    rintro e w3 ⟨rfl, k3⟩
    have G3 := Lib.hid (gb_trans G2.out k3)
    clear k3
    go_wp2_with fail
    refine (KHA.out _).mono ?_
    rintro e w4 ⟨rfl, k4⟩
    have G4 := Lib.hid (gb_trans G3.out k4)
    clear k4
    go_wp2_with fail
    refine (KRH.out _).mono ?_
    rintro e w' ⟨rfl, rfl⟩
    have x5 := (HV.out.kept (gb_trans G1.out G4.out) (by simp)).cell
    go_wp2_with fail
    go_loopg [49] (L + 1) (fun qq iv wr => ∃ j : Nat, j ≤ L ∧ qq = L + 1 - j ∧ iv = .int .i64 (j : Nat) ∧ w1.grownBy wr none)
    case atStart => exact ⟨0, Nat.zero_le _, rfl, rfl, G4.out⟩
    case round =>
      obtain ⟨j, hj, rfl, rfl, gr⟩ := hrel
      have GR := Lib.hid gr
      clear gr x5
      have x5 := (HV.out.kept (gb_trans G1.out GR.out) (by simp)).cell
      by_cases hlt : j < L
      · have e1 : decide ((j : Int) < (L : Int)) = true := decide_eq_true (by omega)
        obtain ⟨ga, rfl, hca⟩ := HCL.out j hlt
        have ca := (gb_trans G1.out GR.out).cell hca (by simp)
        have cb := GR.out.cell (HWC.out j hlt) (by simp)
        clear hca
        obtain ⟨z, hz⟩ : ∃ z, q j = z := ⟨_, rfl⟩
        rw [hz] at ca cb
        clear hz
        go_upto_region 16 with fail
        go_region
        go_wp2
        go_roundg (L + 1 - (j + 1))
        case measure => omega
        case rel => exact ⟨j + 1, hlt, rfl, by go_num, gb_trans GR.out (gb_drew _ none)⟩
      · obtain rfl : j = L := by omega
        have e1 : decide ((j : Int) < (j : Int)) = false := decide_eq_false (by omega)
        rcases H2M.out with h2 | h4
        · have h2' : j < 2 := by have := HL.out; omega
          have e2 : decide ((j : Int) < 2) = true := decide_eq_true (by omega)
          have e2' : (j : Int) < 2 := by omega
          clear h2
          go_wp2_with fail
          refine (KW.out _ (gb_trans HG.out (gb_trans G1.out GR.out))).mono ?_
          rintro e w9 ⟨rfl, k9⟩
          have GX := gb_trans (gb_trans G1.out GR.out) k9
          have K1 := (GX.block D (lt_of HD.out) (by simp)).trans HD.out
          have GW := gb_trans HG.out GX
          clear GX k9 x5
          go_wp2
          refine ⟨by simp, .inl ⟨_, _, rfl, run_takeDeferred K1, ?_⟩⟩
          exact ⟨_, results_tmp rfl _ _ _, rfl, gb_own GW (by omega) (put_gb _ D _)⟩
        · obtain rfl : j = 2 := by
            have := HL.out
            rw [h4] at this
            exact this.symm
          have q0 : q 0 = 4 := by
            rw [← HQ.out 0 (by rw [h4]; decide)]
            simp [h4]
          have q1 : q 1 = 2 := by
            rw [← HQ.out 1 (by rw [h4]; decide)]
            simp [h4]
          obtain ⟨ga, rfl, hc0⟩ := HCL.out 0 (by decide)
          obtain ⟨gb, eg, hc1⟩ := HCL.out 1 (by decide)
          cases eg
          rw [q0, show ((4 : Nat) : Int) = 4 from rfl] at hc0
          rw [q1, show ((2 : Nat) : Int) = 2 from rfl] at hc1
          have y0 := (gb_trans G1.out GR.out).cell hc0 (by simp)
          have y1 := (gb_trans G1.out GR.out).cell hc1 (by simp)
          clear hc0 hc1 q0 q1 h4
          go_wp2_with fail
          refine (KW.out _ (gb_trans HG.out (gb_trans G1.out GR.out))).mono ?_
          rintro e w9 ⟨rfl, k9⟩
          have GX := gb_trans (gb_trans G1.out GR.out) k9
          have K1 := (GX.block D (lt_of HD.out) (by simp)).trans HD.out
          have GW := gb_trans HG.out GX
          clear GX k9 x5 y0 y1
          go_wp2
          refine ⟨by simp, .inl ⟨_, _, rfl, run_takeDeferred K1, ?_⟩⟩
          exact ⟨_, results_tmp rfl _ _ _, rfl, gb_own GW (by omega) (put_gb _ D _)⟩
  case stop =>
    rintro D c pre X hD hpre hF hK
    exact hF.elim

/-- Any text, and any number. -/
theorem formats_any (s : ByteArray) (f : Int) (W : World) (HT : OrdT W) : Calls Tryd.prog 3 #[.string s, .int .i64 f] W fun e w' => e = .returned (.bool true) ∧ W.grownBy w' none := by
  rcases Nat.lt_or_ge 3000 s.size with h | h
  · exact fmts_big s f h W HT
  · exact fmts_small s f h W HT

end Go.Proofs.YtibbebglbcjnmaaDoor.Sn
