/- Texts of one kind, one behind the other: Fd4, Fl2. -/
import Derived.Deep.Cut
import Derived.Deep.CutRange
import Derived.Test.YtboojlkncbipoaaGreatG23
import Derived.Test.YtboojlkncbipoaaGreatG24
/- The document's Decode of a farbfeld file whose head is right. -/
namespace Go.Proofs.YtboojlkncbipoaaGreat.Ff
open Go.ChangeShapes Go.WideShapes Go.ChangeAt Go.RowKit
open Go.Proofs.YtboojlkncbipoaaGreat.Le Go.Proofs.YtboojlkncbipoaaGreat.Tk Go.Proofs.YtboojlkncbipoaaGreat.Sr Go.Proofs.YtboojlkncbipoaaGreat.Sc Go.Proofs.YtboojlkncbipoaaGreat.Sh Go.Proofs.YtboojlkncbipoaaGreat.Ra Go.Proofs.YtboojlkncbipoaaGreat.Qd
set_option linter.unusedVariables false

set_option maxRecDepth 100000 in
set_option maxHeartbeats 4000000 in
theorem rdec_head (s : ByteArray) (w h n K f p : Nat) (M : MK sgF s 8) (hn16 : 16 ≤ s.size) (hs : s.size ≤ 1000) (ew : beV s 8 = w) (eh : beV s 12 = h) (hkd : kdS 8 8 w h = 0) (hn : w * h = n)
    (hK : (K = n ∧ 16 + 8 * n ≤ s.size ∧ f = 0) ∨ (K < n ∧ 16 + 8 * K ≤ s.size ∧ s.size < 16 + 8 * K + 8 ∧ f = 1 ∧ p = s.size)) (W : World) :
    Calls Tryz.prog 32 #[.string s] W (DQ W w h f p (qL (cF s) n)) := by
  obtain ⟨Q, hQ⟩ : ∃ Q, DQ W w h f p (qL (cF s) n) = Q := ⟨_, rfl⟩
  rw [hQ]
  have HQ := Lib.hid hQ
  obtain ⟨pl, hpl⟩ : ∃ pl, plS 8 8 w h = pl := ⟨_, rfl⟩
  have KC := fun u => check_calls s 8 w h 0 pl M hn16 (by omega) ew eh hkd hpl u
  unfold imB at KC
  have KC := Lib.hid KC
  have K1 : ∀ u, Calls Tryz.prog 46 #[.string (s.extract 8 12)] u fun e w' => e = .returned (.int .i64 (beV s 8 : Nat)) ∧ u = w' := fun u => be_calls s 8 u
  have K2 : ∀ u, Calls Tryz.prog 46 #[.string (s.extract 12 16)] u fun e w' => e = .returned (.int .i64 (beV s 12 : Nat)) ∧ u = w' := fun u => be_calls s 12 u
  rw [ew] at K1
  rw [eh] at K2
  have K1 := Lib.hid K1
  have K2 := Lib.hid K2
  have s1 : ∀ w, (Instr.slice 9 (.string s) (some (.int .i64 8)) (some (.int .i64 12)) none).run Tryz.prog w = .ok (.string (s.extract 8 12)) w := fun w => Sr.cut_at s 8 4 (by omega) w
  have s2 : ∀ w, (Instr.slice 9 (.string s) (some (.int .i64 12)) (some (.int .i64 16)) none).run Tryz.prog w = .ok (.string (s.extract 12 16)) w := fun w => Sr.cut_at s 12 4 (by omega) w
  have d1 : decide ((s.size : Int) < 16) = false := decide_eq_false (by omega)
  have d1' : ¬ (s.size : Int) < 16 := by omega
  have HWH := Lib.hid (And.intro hs (And.intro hn hK))
  have hmul : (w : Int) * (h : Int) = (n : Int) := by rw [← hn]; exact (Int.natCast_mul _ _).symm
  have hb4 := kd0 (Nat.le_refl _) hkd
  have hnb : n ≤ 268435456 := by rw [← hn]; exact Nat.mul_le_mul hb4.2.2.1 hb4.2.2.2.2
  have HMUL := Lib.hid (And.intro hmul hnb)
  have G0 := Lib.hid (World.grownBy_alloc W (.cells #[.int .i64 0, .int .i64 0, .slice none 0 0, .int .i64 0, .int .i64 0] 39) none)
  have I0 := Lib.hid (blk_at (w := W) (o := .cells #[.int .i64 0, .int .i64 0, .slice none 0 0, .int .i64 0, .int .i64 0] 39))
  clear M hn16 hs ew eh hkd hpl hn hK hmul hb4 hnb hQ
  go_enter Tryz.func32, Tryz.ntmps32
  go_wp2_with fail
  generalize W.alloc (.cells #[.int .i64 0, .int .i64 0, .slice none 0 0, .int .i64 0, .int .i64 0] 39) = w0 at G0 I0 ⊢
  refine (KC.out _).mono ?_
  rintro e w2 ⟨rfl, G2⟩
  have g3 := World.grownBy_alloc w2 (.cells #[.int .i64 0, .int .i64 0, .slice none 0 0, .int .i64 0, .int .i64 pl] 39) none
  have I3 := ((gb_trans G2 g3).block _ (blk_lt I0.out) (by simp)).trans I0.out
  have J3 : (w2.alloc (.cells #[.int .i64 0, .int .i64 0, .slice none 0 0, .int .i64 0, .int .i64 pl] 39)).heap[w2.heap.size]? = _ := blk_at
  have j3 := blk_cell J3 3
  simp only [List.getElem?_toArray, List.getElem?_cons_succ, List.getElem?_cons_zero] at j3
  have HG3 := Lib.hid (gb_trans G0.out (gb_trans G2 g3))
  have HI3 := Lib.hid I3
  clear I3 J3 G2 G0 I0 g3 KC
  go_wp2_with fail
  generalize w2.alloc (.cells #[.int .i64 0, .int .i64 0, .slice none 0 0, .int .i64 0, .int .i64 pl] 39) = w3 at HG3 HI3 j3 ⊢
  clear j3
  conv => arg 4; dsimp only
  go_cut [4] from 21 to 27 (fun v wx => ∃ ob, v = .pointer (some ⟨ob, 0, none⟩) ∧ TI W W.heap.size ob (ob + 1) w h (.slice none 0 0) 0 (qL (cF s) 0) wx)
  case first =>
    go_region_held3 (fun _ => True) (go_keep)
      (first
        | (go_at_call 46; (with_reducible refine (K1.out _).mono ?_); rintro e w' ⟨rfl, rfl⟩)
        | (go_at_call 46; (with_reducible refine (K2.out _).mono ?_); rintro e w' ⟨rfl, rfl⟩))
    all_goals
      have g4 := gb_trans (World.grownBy_alloc w3 (.cells #[.int .i64 w, .int .i64 h, .slice none 0 0, .int .i64 0, .int .i64 0] 39) none) (gb_drew _ none)
      have hz4 : (w3.alloc (.cells #[.int .i64 w, .int .i64 h, .slice none 0 0, .int .i64 0, .int .i64 0] 39)).drew.heap.size = w3.heap.size + 1 := size_alloc _ _
      have b4 : (w3.alloc (.cells #[.int .i64 w, .int .i64 h, .slice none 0 0, .int .i64 0, .int .i64 0] 39)).drew.heap[w3.heap.size]? = some (.cells #[.int .i64 w, .int .i64 h, .slice none 0 0, .int .i64 0, .int .i64 0] 39 (0, 0)) := (gb_drew _ none).block _ (by rw [size_alloc]; omega) (by simp) |>.trans blk_at
      have h3 := blk_lt HI3.out
      have T0 : TI W W.heap.size w3.heap.size (w3.heap.size + 1) w h (.slice none 0 0) 0 (qL (cF s) 0) ((w3.alloc (.cells #[.int .i64 w, .int .i64 h, .slice none 0 0, .int .i64 0, .int .i64 0] 39)).drew) :=
        ⟨(g4.block _ (blk_lt HI3.out) (by simp)).trans HI3.out, b4, World.ownsRow_nil _ _ _ _, gb_trans HG3.out g4, by omega, by omega, by omega, by omega, by omega, by omega⟩
      have HT0 := Lib.hid T0
      clear g4 hz4 b4 T0
      go_wp2_with fail
      go_meet
      case rel => exact ⟨_, rfl, HT0.out⟩
  case rest =>
    obtain ⟨ob, rfl, T0⟩ := hcut
    have HT0 := Lib.hid T0
    clear T0
    go_wp2_with fail
    go_loopg [5] n (fun q iv wr => ∃ (k : Nat) (L : Value), k ≤ n ∧ q = n - k ∧ iv = .int .i64 k ∧ k ≤ K ∧ TI W W.heap.size ob (ob + 1) w h L k (qL (cF s) k) wr)
    case atStart => exact ⟨0, _, Nat.zero_le _, rfl, rfl, Nat.zero_le _, HT0.out⟩
    case round =>
      obtain ⟨k, L, hk, rfl, rfl, hkK, T⟩ := hrel
      obtain ⟨La, Ln, Lc, rfl⟩ := T.sl
      have HT := Lib.hid T
      have HKK := Lib.hid hkK
      have o0 := T.oc0
      have o1 := T.oc1
      have hlt := blk_lt T.fob
      have hmul := HMUL.out.1
      have hnb := HMUL.out.2
      clear T hkK HT0
      by_cases hkn : k < n
      · have d2 : decide ((k : Int) < (n : Int)) = true := decide_eq_true (by omega)
        have hs := HWH.out.1
        have hk100 : 16 + 8 * k ≤ s.size := by rcases HWH.out.2.2 with ⟨e1, e2, e3⟩ | ⟨e1, e2, e3, e4⟩ <;> have := HKK.out <;> omega
        obtain ⟨a, ha⟩ : ∃ a, 16 + 8 * k = a := ⟨_, rfl⟩
        have e1 : (16 : Int) + 8 * (k : Int) = (a : Int) := by omega
        have HA := Lib.hid ha
        rw [ha] at hk100
        by_cases hcut : s.size < a + 8
        · have d3 : decide ((s.size : Int) < (a : Int) + 8) = true := decide_eq_true (by omega)
          have KB := fun u => bad13_calls 1 (s.size : Int) u
          unfold imB at KB
          have KB := Lib.hid KB
          have HE := Lib.hid (show f = 1 ∧ p = s.size by rcases HWH.out.2.2 with ⟨e1, e2, e3⟩ | ⟨e1, e2, e3, e4, e5⟩; (exfalso; have := HKK.out; omega); exact ⟨e4, e5⟩)
          clear ha
          go_wp2_with fail
          refine (KB.out _).mono ?_
          rintro e w5 ⟨rfl, g5⟩
          have T5 := HT.out.grown g5
          have q0 := T5.rc0
          have q1 := T5.rc1
          have q2 := T5.rc2
          have q3 := T5.rc3
          have q4 := T5.rc4
          have f0 := T5.rfree 0
          have f1 := T5.rfree 1
          have f2 := T5.rfree 2
          have f3 := T5.rfree 3
          have f4 := T5.rfree 4
          have HT5 := Lib.hid T5.g
          clear T5 g5
          go_wp2
          refine bodyPost_ret (v := .agg (imB 1 (s.size : Int))) (by simp only [results, Tryz.results32, imB]; go_simp) rfl ?_
          rw [← HQ.out, HE.out.1, HE.out.2]
          refine ⟨?_, .inl ⟨by decide, rfl⟩⟩
          exact Tn.own HT5.out (show Tn w5 (((((w5.setCell ⟨W.heap.size, 0, none⟩ (.int .i64 0)).setCell ⟨W.heap.size, 1, none⟩ (.int .i64 0)).setCell ⟨W.heap.size, 2, none⟩ (.slice none 0 0)).setCell ⟨W.heap.size, 3, none⟩ (.int .i64 1)).setCell ⟨W.heap.size, 4, none⟩ (.int .i64 (s.size : Int))) [W.heap.size] from (((((Tn.refl w5 _).st (by simp)).st (by simp)).st (by simp)).st (by simp)).st (by simp)) (by intro i hi; simp at hi; left; omega)
        · have d3 : decide ((s.size : Int) < (a : Int) + 8) = false := decide_eq_false (by omega)
          have HO0 := Lib.hid (show (wr.alloc (.cells #[] 5)).ownsRow wr.heap.size 5 1 (.slice (some ⟨wr.heap.size, 0, none⟩) 0 0) 0 (clF (cF s k) 0) from World.ownsRow_made wr #[] 0 (Nat.le_refl _) (by unfold maxLen; omega) (by simp))
          have HG0 := Lib.hid (World.grownBy_alloc wr (.cells #[] 5) none)
          have hn0 : 0 ≤ cF s k 0 ∧ 0 ≤ cF s k 1 ∧ 0 ≤ cF s k 2 ∧ 0 ≤ cF s k 3 := ⟨(cF_bd s k 0).1, (cF_bd s k 1).1, (cF_bd s k 2).1, (cF_bd s k 3).1⟩
          have HN0 := Lib.hid hn0
          clear hn0
          go_wp2_with fail
          clear o0 o1 hlt
          generalize wr.alloc (.cells #[] 5) = w6 at HO0 HG0 ⊢
          obtain ⟨B2, hB2⟩ : ∃ b, wr.heap.size = b := ⟨_, rfl⟩
          rw [hB2] at HO0 ⊢
          have HB2 := Lib.hid hB2
          clear hB2
          obtain ⟨wo, hwo⟩ : ∃ x, wr = x := ⟨_, rfl⟩
          rw [hwo] at HT HG0 HB2
          clear hwo
          go_loopg [7, 8] 4 (fun q lv iv u => ∃ (i : Nat) (Lb : Value), i ≤ 4 ∧ q = 4 - i ∧ Lb = lv ∧ iv = .int .i64 i ∧ u.ownsRow B2 5 1 Lb i (clF (cF s k) i) ∧ wo.grownBy u none)
          case atStart => exact ⟨0, _, by omega, rfl, rfl, rfl, HO0.out, HG0.out⟩
          case round =>
            clear HO0 HG0
            obtain ⟨i, Lb, hi, rfl, rfl, rfl, O, G⟩ := hrel
            have HO := Lib.hid O
            have HG := Lib.hid G
            have hBu := Lib.hid (show B2 ≤ _ by have h := G.size; rw [HB2.out] at h; exact h)
            clear G
            by_cases hi4 : i < 4
            · have d4 : decide ((i : Int) < 4) = true := decide_eq_true (by omega)
              obtain ⟨va, vn, vc, rfl⟩ : ∃ a n c, Lb = .slice a n c := by
                rcases O.2 with ⟨h, _⟩ | ⟨g, cap, cur, h, _⟩
                · exact ⟨_, _, _, h⟩
                · exact ⟨_, _, _, h⟩
              obtain ⟨j, hj⟩ : ∃ j, 2 * i = j := ⟨_, rfl⟩
              obtain ⟨x, hx⟩ : ∃ x, a + j = x := ⟨_, rfl⟩
              have m1 : IntKind.i64.wrap (2 * (i : Int)) = (j : Int) := by rw [IntKind.wrap_i64]; omega
              have m2 : wrap64 (2 * (i : Int)) = (j : Int) := (IntWalk.wrap64_in _ (by omega)).trans (by omega)
              have m3 : IntKind.i64.wrap ((a : Int) + (j : Int)) = (x : Int) := by rw [IntKind.wrap_i64]; omega
              have m4 : wrap64 ((a : Int) + (j : Int)) = (x : Int) := (IntWalk.wrap64_in _ (by omega)).trans (by omega)
              have m5 : IntKind.i64.wrap ((x : Int) + 2) = (x : Int) + 2 := by rw [IntKind.wrap_i64]; omega
              have m6 : wrap64 ((x : Int) + 2) = (x : Int) + 2 := IntWalk.wrap64_in _ (by omega)
              have hsl : ∀ w, (Instr.slice 9 (.string s) (some (.int .i64 (x : Int))) (some (.int .i64 ((x : Int) + 2))) none).run Tryz.prog w = .ok (.string (s.extract x (x + 2))) w := fun w => Sr.cut_at s x 2 (by omega) w
              have KE : ∀ u, Calls Tryz.prog 46 #[.string (s.extract x (x + 2))] u fun e w' => e = .returned (.int .i64 (n2 s x : Nat)) ∧ u = w' := fun u => rbe_calls _ u (by rw [ByteArray.size_extract]; omega)
              have hcx : nf s x = cF s k i := by unfold cF; congr 1; have := HA.out; omega
              have KM : ∀ u, Calls Tryz.prog 75 #[.int .i64 (n2 s x : Nat), .int .i64 65535] u fun e w' => e = .returned (.int .i64 (cF s k i)) ∧ u = w' := fun u => by
                rw [← hcx]
                exact rmax_calls (n2 s x : Nat) 65535 u (by decide) (by decide) (by omega) (by have := n2_le s x; omega)
              have hy := cF_bd s k i
              obtain ⟨y, hy2⟩ : ∃ y, cF s k i = y := ⟨_, rfl⟩
              rw [hy2] at KM hy
              have wv : IntKind.u8.wrap y = y := by rw [IntKind.wrap_u8]; omega
              obtain ⟨v, hv⟩ : ∃ v, n2 s x = v := ⟨_, rfl⟩
              rw [hv] at KE KM
              have KE := Lib.hid KE
              have KM := Lib.hid KM
              have HY := Lib.hid hy2
              clear hy hy2 hv hcx hx hj O
              go_wp2_with fail
              refine (KE.out _).mono ?_
              rintro e w' ⟨rfl, rfl⟩
              go_wp2_with fail
              refine (KM.out _).mono ?_
              rintro e w' ⟨rfl, rfl⟩
              go_wp2_with (at_builtin; refine u8_app y HO.out (by omega) hBu.out rfl rfl rfl rfl ?_)
              intro g cap w8 ho8 hg8
              have G8 := gb_rowq HG.out HO.out (by rw [HB2.out]; exact Nat.le_refl _) (gb_trans (gb_any (World.grownBy_alloc _ (u8B y) none) _) hg8)
              have HO8 := Lib.hid ho8
              have HG8 := Lib.hid G8
              clear ho8 hg8 G8 m1 m2 m3 m4 m5 m6 hsl wv
              go_wp2_with fail
              go_roundg (4 - (i + 1))
              case measure => omega
              case rel => exact ⟨i + 1, _, by omega, rfl, rfl, by go_num, by rw [clF_snoc, HY.out]; exact HO8.out, HG8.out⟩
            · obtain rfl : i = 4 := by omega
              obtain ⟨b0, hb0⟩ : ∃ b : Nat, cF s k 0 = (b : Int) := ⟨_, (Int.toNat_of_nonneg HN0.out.1).symm⟩
              obtain ⟨b1, hb1⟩ : ∃ b : Nat, cF s k 1 = (b : Int) := ⟨_, (Int.toNat_of_nonneg HN0.out.2.1).symm⟩
              obtain ⟨b2, hb2⟩ : ∃ b : Nat, cF s k 2 = (b : Int) := ⟨_, (Int.toNat_of_nonneg HN0.out.2.2.1).symm⟩
              obtain ⟨b3, hb3⟩ : ∃ b : Nat, cF s k 3 = (b : Int) := ⟨_, (Int.toNat_of_nonneg HN0.out.2.2.2).symm⟩
              rw [clF_4, hb0, hb1, hb2, hb3] at O
              have hqc : qC (cF s) k = (b0, b1, b2, b3) := by unfold qC; rw [hb0, hb1, hb2, hb3]; rfl
              obtain ⟨g, cap, cur, rfl, hBg, hg, htk⟩ : ∃ g cap cur, Lb = .slice (some ⟨g, 0, none⟩) 4 cap ∧ B2 ≤ g ∧ wr.heap[g]? = some (.cells cur 5 (0, 0)) ∧ cur.toList.take 4 = [.int .u8 (b0 : Int), .int .u8 (b1 : Int), .int .u8 (b2 : Int), .int .u8 (b3 : Int)] := by
                rcases O.2 with ⟨h, h0⟩ | ⟨g, cap, cur, h1, hB, h2, _, _, _, h3⟩
                · exact absurd h0 (by decide)
                · exact ⟨g, cap, cur, h1, hB, h2, h3⟩
              have hc : ∀ j, j < 4 → wr.cell? ⟨g, j, none⟩ = [Value.int .u8 (b0 : Int), .int .u8 (b1 : Int), .int .u8 (b2 : Int), .int .u8 (b3 : Int)][j]? := fun j hj => by
                rw [blk_cell hg j, ← htk, List.getElem?_take, if_pos hj]
                exact Array.getElem?_toList.symm
              have y0 : wr.cell? ⟨g, 0, none⟩ = some (.int .u8 (b0 : Int)) := hc 0 (by decide)
              have y1 : wr.cell? ⟨g, 1, none⟩ = some (.int .u8 (b1 : Int)) := hc 1 (by decide)
              have y2 : wr.cell? ⟨g, 2, none⟩ = some (.int .u8 (b2 : Int)) := hc 2 (by decide)
              have y3 : wr.cell? ⟨g, 3, none⟩ = some (.int .u8 (b3 : Int)) := hc 3 (by decide)
              have hgl := blk_lt hg
              have hob2 := blk_lt HT.out.fob
              rw [HB2.out] at hob2
              have ng1 : ¬ g = ob := by omega
              have ng2 : ¬ ob = g := by omega
              have T6 := HT.out.grown HG.out
              have o2 := T6.oc2
              have hol := blk_lt T6.fob
              have HTd := Lib.hid (T6.grown (gb_drew wr none))
              have HQC := Lib.hid hqc
              have HKN := Lib.hid (show k < 1000000 by omega)
              have HK1 := Lib.hid (show k + 1 ≤ K by
                have h1 := HKK.out
                rcases HWH.out.2.2 with ⟨e1, e2, e3⟩ | ⟨e1, e2, e3, e4⟩
                · omega
                · have := HA.out; omega)
              have HGB := Lib.hid (fun (w7 : World) (hg7 : (wr.drew.alloc (pcB (b0, b1, b2, b3))).grownBy w7 (Value.slice La Ln Lc).ownBlock) => by
                have hap : some g ≠ (Value.slice La Ln Lc).ownBlock := fun e => by
                  have h1 := (HT.out.own.lt g e.symm).2
                  rw [HB2.out] at h1
                  omega
                have hg1 : (wr.drew.alloc (pcB (b0, b1, b2, b3))).heap[g]? = some (.cells cur 5 (0, 0)) := blk_al (((gb_drew wr none).block g hgl (by simp)).trans hg) _
                have hg2 := (hg7.block g (blk_lt hg1) hap).trans hg1
                have hc2 : ∀ j, j < 4 → w7.cell? ⟨g, j, none⟩ = [Value.int .u8 (b0 : Int), .int .u8 (b1 : Int), .int .u8 (b2 : Int), .int .u8 (b3 : Int)][j]? := fun j hj => by
                  rw [blk_cell hg2 j, ← htk, List.getElem?_take, if_pos hj]
                  exact Array.getElem?_toList.symm
                exact (⟨hc2 0 (by decide), hc2 1 (by decide), hc2 2 (by decide), hc2 3 (by decide)⟩ : w7.cell? ⟨g, 0, none⟩ = some (.int .u8 (b0 : Int)) ∧ w7.cell? ⟨g, 1, none⟩ = some (.int .u8 (b1 : Int)) ∧ w7.cell? ⟨g, 2, none⟩ = some (.int .u8 (b2 : Int)) ∧ w7.cell? ⟨g, 3, none⟩ = some (.int .u8 (b3 : Int))))
              clear O hg htk hc hb0 hb1 hb2 hb3 hqc T6 HO
              go_wp2_with fail
              clear hob2 hBg
              -- BEGINREG
              refine wp_region_held_drew (S := fun w' => w'.cell? ⟨g, 0, none⟩ = some (.int .u8 (b0 : Int)) ∧ w'.cell? ⟨g, 1, none⟩ = some (.int .u8 (b1 : Int)) ∧ w'.cell? ⟨g, 2, none⟩ = some (.int .u8 (b2 : Int)) ∧ w'.cell? ⟨g, 3, none⟩ = some (.int .u8 (b3 : Int))) (by kernel_rfl) ?_ (fun hHeld => ?_)
              · first | exact trivial | go_keep
              refine wpAnyH_take (i := 0) (oi := { dst := some 70, op := Go.Op.fieldAddr 39 (Go.Operand.tmp 4) 2, type := 0, pos := "ref.go:50", after := #[], guard := none }) (v := ?v0_1) rfl (by kernel_rfl) (by kernel_rfl) (by kernel_rfl) (fun _ _ _ h => h) (Or.inl ⟨by rfl, ?hy0_1⟩) (by assumption) ?rest0_1
              case hy0_1 =>
                intro w' hSw
                try dsimp only at hSw
                go_simp
                try with_reducible rfl
              try simp only [Act.put, List.setIfInBounds_toArray, List.set_cons_zero, List.set_cons_succ]
              refine wpAnyH_take (i := 2) (oi := { dst := some 72, op := Go.Op.move (Go.Operand.tmp 7), type := 25, pos := "ref.go:50", after := #[], guard := none }) (v := ?v2_2) rfl (by kernel_rfl) (by kernel_rfl) (by kernel_rfl) (fun _ _ _ h => h) (Or.inl ⟨by rfl, ?hy2_2⟩) (by assumption) ?rest2_2
              case hy2_2 =>
                intro w' hSw
                try dsimp only at hSw
                go_simp
                try with_reducible rfl
              try simp only [Act.put, List.setIfInBounds_toArray, List.set_cons_zero, List.set_cons_succ]
              refine wpAnyH_take (i := 3) (oi := { dst := some 73, op := Go.Op.indexAddr 25 (Go.Operand.tmp 72) (Go.Operand.const (Go.Value.int Go.IntKind.i64 0)), type := 0, pos := "ref.go:50", after := #[{ on := 2, ground := Go.Ground.data }], guard := none }) (v := ?v3_3) rfl (by kernel_rfl) (by kernel_rfl) (by kernel_rfl) (fun _ _ _ h => h) (Or.inl ⟨by rfl, ?hy3_3⟩) (by assumption) ?rest3_3
              case hy3_3 =>
                intro w' hSw
                try dsimp only at hSw
                go_simp
                try with_reducible rfl
              try simp only [Act.put, List.setIfInBounds_toArray, List.set_cons_zero, List.set_cons_succ]
              refine wpAnyH_take (i := 4) (oi := { dst := some 74, op := Go.Op.load 5 (Go.Operand.tmp 73), type := 5, pos := "ref.go:50", after := #[{ on := 3, ground := Go.Ground.data }], guard := none }) (v := ?v4_4) rfl (by kernel_rfl) (by kernel_rfl) (by kernel_rfl) (fun _ _ _ h => h) (Or.inl ⟨by rfl, ?hy4_4⟩) (by assumption) ?rest4_4
              case hy4_4 =>
                intro w' hSw
                try dsimp only at hSw
                go_simp
                try with_reducible rfl
              try simp only [Act.put, List.setIfInBounds_toArray, List.set_cons_zero, List.set_cons_succ]
              refine wpAnyH_take (i := 5) (oi := { dst := some 75, op := Go.Op.move (Go.Operand.tmp 7), type := 25, pos := "ref.go:50", after := #[], guard := none }) (v := ?v5_5) rfl (by kernel_rfl) (by kernel_rfl) (by kernel_rfl) (fun _ _ _ h => h) (Or.inl ⟨by rfl, ?hy5_5⟩) (by assumption) ?rest5_5
              case hy5_5 =>
                intro w' hSw
                try dsimp only at hSw
                go_simp
                try with_reducible rfl
              try simp only [Act.put, List.setIfInBounds_toArray, List.set_cons_zero, List.set_cons_succ]
              refine wpAnyH_take (i := 6) (oi := { dst := some 76, op := Go.Op.indexAddr 25 (Go.Operand.tmp 75) (Go.Operand.const (Go.Value.int Go.IntKind.i64 1)), type := 0, pos := "ref.go:50", after := #[{ on := 5, ground := Go.Ground.data }], guard := none }) (v := ?v6_6) rfl (by kernel_rfl) (by kernel_rfl) (by kernel_rfl) (fun _ _ _ h => h) (Or.inl ⟨by rfl, ?hy6_6⟩) (by assumption) ?rest6_6
              case hy6_6 =>
                intro w' hSw
                try dsimp only at hSw
                go_simp
                try with_reducible rfl
              try simp only [Act.put, List.setIfInBounds_toArray, List.set_cons_zero, List.set_cons_succ]
              refine wpAnyH_take (i := 7) (oi := { dst := some 77, op := Go.Op.load 5 (Go.Operand.tmp 76), type := 5, pos := "ref.go:50", after := #[{ on := 6, ground := Go.Ground.data }], guard := none }) (v := ?v7_7) rfl (by kernel_rfl) (by kernel_rfl) (by kernel_rfl) (fun _ _ _ h => h) (Or.inl ⟨by rfl, ?hy7_7⟩) (by assumption) ?rest7_7
              case hy7_7 =>
                intro w' hSw
                try dsimp only at hSw
                go_simp
                try with_reducible rfl
              try simp only [Act.put, List.setIfInBounds_toArray, List.set_cons_zero, List.set_cons_succ]
              refine wpAnyH_take (i := 8) (oi := { dst := some 78, op := Go.Op.move (Go.Operand.tmp 7), type := 25, pos := "ref.go:50", after := #[], guard := none }) (v := ?v8_8) rfl (by kernel_rfl) (by kernel_rfl) (by kernel_rfl) (fun _ _ _ h => h) (Or.inl ⟨by rfl, ?hy8_8⟩) (by assumption) ?rest8_8
              case hy8_8 =>
                intro w' hSw
                try dsimp only at hSw
                go_simp
                try with_reducible rfl
              try simp only [Act.put, List.setIfInBounds_toArray, List.set_cons_zero, List.set_cons_succ]
              refine wpAnyH_take (i := 9) (oi := { dst := some 79, op := Go.Op.indexAddr 25 (Go.Operand.tmp 78) (Go.Operand.const (Go.Value.int Go.IntKind.i64 2)), type := 0, pos := "ref.go:50", after := #[{ on := 8, ground := Go.Ground.data }], guard := none }) (v := ?v9_9) rfl (by kernel_rfl) (by kernel_rfl) (by kernel_rfl) (fun _ _ _ h => h) (Or.inl ⟨by rfl, ?hy9_9⟩) (by assumption) ?rest9_9
              case hy9_9 =>
                intro w' hSw
                try dsimp only at hSw
                go_simp
                try with_reducible rfl
              try simp only [Act.put, List.setIfInBounds_toArray, List.set_cons_zero, List.set_cons_succ]
              refine wpAnyH_take (i := 10) (oi := { dst := some 80, op := Go.Op.load 5 (Go.Operand.tmp 79), type := 5, pos := "ref.go:50", after := #[{ on := 9, ground := Go.Ground.data }], guard := none }) (v := ?v10_10) rfl (by kernel_rfl) (by kernel_rfl) (by kernel_rfl) (fun _ _ _ h => h) (Or.inl ⟨by rfl, ?hy10_10⟩) (by assumption) ?rest10_10
              case hy10_10 =>
                intro w' hSw
                try dsimp only at hSw
                go_simp
                try with_reducible rfl
              try simp only [Act.put, List.setIfInBounds_toArray, List.set_cons_zero, List.set_cons_succ]
              refine wpAnyH_take (i := 11) (oi := { dst := some 81, op := Go.Op.move (Go.Operand.tmp 7), type := 25, pos := "ref.go:50", after := #[], guard := none }) (v := ?v11_11) rfl (by kernel_rfl) (by kernel_rfl) (by kernel_rfl) (fun _ _ _ h => h) (Or.inl ⟨by rfl, ?hy11_11⟩) (by assumption) ?rest11_11
              case hy11_11 =>
                intro w' hSw
                try dsimp only at hSw
                go_simp
                try with_reducible rfl
              try simp only [Act.put, List.setIfInBounds_toArray, List.set_cons_zero, List.set_cons_succ]
              refine wpAnyH_take (i := 12) (oi := { dst := some 82, op := Go.Op.indexAddr 25 (Go.Operand.tmp 81) (Go.Operand.const (Go.Value.int Go.IntKind.i64 3)), type := 0, pos := "ref.go:50", after := #[{ on := 11, ground := Go.Ground.data }], guard := none }) (v := ?v12_12) rfl (by kernel_rfl) (by kernel_rfl) (by kernel_rfl) (fun _ _ _ h => h) (Or.inl ⟨by rfl, ?hy12_12⟩) (by assumption) ?rest12_12
              case hy12_12 =>
                intro w' hSw
                try dsimp only at hSw
                go_simp
                try with_reducible rfl
              try simp only [Act.put, List.setIfInBounds_toArray, List.set_cons_zero, List.set_cons_succ]
              refine wpAnyH_take (i := 13) (oi := { dst := some 83, op := Go.Op.load 5 (Go.Operand.tmp 82), type := 5, pos := "ref.go:50", after := #[{ on := 12, ground := Go.Ground.data }], guard := none }) (v := ?v13_13) rfl (by kernel_rfl) (by kernel_rfl) (by kernel_rfl) (fun _ _ _ h => h) (Or.inl ⟨by rfl, ?hy13_13⟩) (by assumption) ?rest13_13
              case hy13_13 =>
                intro w' hSw
                try dsimp only at hSw
                go_simp
                try with_reducible rfl
              try simp only [Act.put, List.setIfInBounds_toArray, List.set_cons_zero, List.set_cons_succ]
              refine wpAnyH_take (i := 14) (oi := { dst := some 84, op := Go.Op.build 74 #[(0, Go.Operand.tmp 74), (1, Go.Operand.tmp 77), (2, Go.Operand.tmp 80), (3, Go.Operand.tmp 83)], type := 74, pos := "ref.go:50", after := #[{ on := 4, ground := Go.Ground.data }, { on := 7, ground := Go.Ground.data }, { on := 10, ground := Go.Ground.data }, { on := 13, ground := Go.Ground.data }], guard := none }) (v := ?v14_14) rfl (by kernel_rfl) (by kernel_rfl) (by kernel_rfl) (fun _ _ _ h => h) (Or.inl ⟨by rfl, ?hy14_14⟩) (by assumption) ?rest14_14
              case hy14_14 =>
                intro w' hSw
                try dsimp only at hSw
                go_simp
                try with_reducible rfl
              try simp only [Act.put, List.setIfInBounds_toArray, List.set_cons_zero, List.set_cons_succ]
              refine wpAnyH_ready (rs := [1, 15]) (by kernel_rfl) (by simp) ?_
              refine AllReadyH.cons (o := { dst := some 71, op := Go.Op.load 37 (Go.Operand.tmp 70), type := 37, pos := "ref.go:50", after := #[{ on := 0, ground := Go.Ground.data }], guard := none }) rfl (fun K hK => ?_) ?_
              · go_simp
                refine hK.out _ _ ?_ (fun hHeld2 => ?_)
                · first | exact trivial | go_keep
                clear hHeld
                have hHeld := hHeld2
                clear hK K hHeld2
                try simp only [Act.put, List.setIfInBounds_toArray, List.set_cons_zero, List.set_cons_succ]
                refine wpAnyH_ready (rs := [15]) (by kernel_rfl) (by simp) ?_
                refine AllReadyH.cons (o := { dst := some 85, op := Go.Op.buildSlice 37 1 #[(0, Go.Operand.tmp 84)], type := 37, pos := "ref.go:50", after := #[{ on := 14, ground := Go.Ground.data }], guard := none }) rfl (fun K hK => ?_) AllReadyH.nil
                go_simp
                refine hK.out _ _ ?_ (fun hHeld2 => ?_)
                · first | exact trivial | go_keep
                clear hHeld
                have hHeld := hHeld2
                clear hK K hHeld2
                try simp only [Act.put, List.setIfInBounds_toArray, List.set_cons_zero, List.set_cons_succ]
                refine wpAnyH_ready (rs := [16]) (by kernel_rfl) (by simp) ?_
                refine AllReadyH.cons (o := { dst := some 86, op := Go.Op.call { callee := Go.Callee.builtin Go.Builtin.append, args := #[Go.Operand.tmp 71, Go.Operand.tmp 85], argTypes := #[37, 37] }, type := 37, pos := "ref.go:50", after := #[{ on := 1, ground := Go.Ground.data }, { on := 15, ground := Go.Ground.data }], guard := none }) rfl (fun K hK => ?_) AllReadyH.nil
                refine color_step (b0, b1, b2, b3) HTd.out.own HKN.out HTd.out.Bu (by rfl) (by rfl) (by rfl) (by rfl) ?_
                intro gg cap2 w7 ho7 hg7
                have hgA := (World.grownBy_alloc wr.drew (pcB (b0, b1, b2, b3)) (Value.slice La Ln Lc).ownBlock)
                have o7 := (hg7.block ob (Nat.lt_of_lt_of_le hol hgA.size) (HTd.out.apart HTd.out.olt)).trans (blk_al HTd.out.fob _)
                have f7 := blk_free o7 2
                have c7 : w7.cell? ⟨ob, 2, none⟩ = some (.slice La Ln Lc) := blk_cell o7 2
                have G7 := HGB.out w7 hg7
                have z0 : w7.cell? ⟨g, 0, none⟩ = some (.int .u8 (b0 : Int)) := G7.1
                have z1 : w7.cell? ⟨g, 1, none⟩ = some (.int .u8 (b1 : Int)) := G7.2.1
                have z2 : w7.cell? ⟨g, 2, none⟩ = some (.int .u8 (b2 : Int)) := G7.2.2.1
                have z3 : w7.cell? ⟨g, 3, none⟩ = some (.int .u8 (b3 : Int)) := G7.2.2.2
                have HT7 := Lib.hid ((HTd.out.grown (World.grownBy_alloc wr.drew (pcB (b0, b1, b2, b3)) none)).app hg7 ho7)
                clear ho7 hg7 hgA o7 G7
                refine hK.out _ _ ?_ (fun hHeld2 => ?_)
                · first | exact trivial | go_keep
                clear hHeld
                have hHeld := hHeld2
                clear hK K hHeld2
                try simp only [Act.put, List.setIfInBounds_toArray, List.set_cons_zero, List.set_cons_succ]
                refine wpAnyH_take (i := 17) (oi := { dst := some 87, op := Go.Op.fieldAddr 39 (Go.Operand.tmp 4) 2, type := 0, pos := "ref.go:50", after := #[{ on := 0, ground := Go.Ground.phase }, { on := 1, ground := Go.Ground.phase }, { on := 2, ground := Go.Ground.phase }, { on := 3, ground := Go.Ground.phase }, { on := 4, ground := Go.Ground.phase }, { on := 5, ground := Go.Ground.phase }, { on := 6, ground := Go.Ground.phase }, { on := 7, ground := Go.Ground.phase }, { on := 8, ground := Go.Ground.phase }, { on := 9, ground := Go.Ground.phase }, { on := 10, ground := Go.Ground.phase }, { on := 11, ground := Go.Ground.phase }, { on := 12, ground := Go.Ground.phase }, { on := 13, ground := Go.Ground.phase }, { on := 14, ground := Go.Ground.phase }, { on := 15, ground := Go.Ground.phase }, { on := 16, ground := Go.Ground.phase }], guard := none }) (v := ?v17_15) rfl (by kernel_rfl) (by kernel_rfl) (by kernel_rfl) (fun _ _ _ h => h) (Or.inl ⟨by rfl, ?hy17_15⟩) (by assumption) ?rest17_15
                case hy17_15 =>
                  intro w' hSw
                  try dsimp only at hSw
                  go_simp
                  try with_reducible rfl
                try simp only [Act.put, List.setIfInBounds_toArray, List.set_cons_zero, List.set_cons_succ]
                refine wpAnyH_ready (rs := [18]) (by kernel_rfl) (by simp) ?_
                refine AllReadyH.cons (o := { dst := none, op := Go.Op.store 37 (Go.Operand.tmp 87) (Go.Operand.tmp 86), type := 0, pos := "ref.go:50", after := #[{ on := 17, ground := Go.Ground.data }, { on := 16, ground := Go.Ground.data }, { on := 16, ground := Go.Ground.chain }, { on := 0, ground := Go.Ground.phase }, { on := 1, ground := Go.Ground.phase }, { on := 2, ground := Go.Ground.phase }, { on := 3, ground := Go.Ground.phase }, { on := 4, ground := Go.Ground.phase }, { on := 5, ground := Go.Ground.phase }, { on := 6, ground := Go.Ground.phase }, { on := 7, ground := Go.Ground.phase }, { on := 8, ground := Go.Ground.phase }, { on := 9, ground := Go.Ground.phase }, { on := 10, ground := Go.Ground.phase }, { on := 11, ground := Go.Ground.phase }, { on := 12, ground := Go.Ground.phase }, { on := 13, ground := Go.Ground.phase }, { on := 14, ground := Go.Ground.phase }, { on := 15, ground := Go.Ground.phase }, { on := 16, ground := Go.Ground.phase }], guard := none }) rfl (fun K hK => ?_) AllReadyH.nil
                go_simp
                refine hK.out _ _ ?_ (fun hHeld2 => ?_)
                · first | exact trivial | go_keep
                clear hHeld
                have hHeld := hHeld2
                clear hK K hHeld2
                try simp only [Act.put, List.setIfInBounds_toArray, List.set_cons_zero, List.set_cons_succ]
                refine wpAnyH_done (by kernel_rfl) ?_ _
                go_wp2
                go_roundg (n - (k + 1))
                case measure => omega
                case rel => exact ⟨k + 1, _, by omega, rfl, by go_num, HK1.out, by rw [qL_snoc, HQC.out]; exact HT7.out⟩
              refine AllReadyH.cons (o := { dst := some 85, op := Go.Op.buildSlice 37 1 #[(0, Go.Operand.tmp 84)], type := 37, pos := "ref.go:50", after := #[{ on := 14, ground := Go.Ground.data }], guard := none }) rfl (fun K hK => ?_) AllReadyH.nil
              go_simp
              refine hK.out _ _ ?_ (fun hHeld2 => ?_)
              · first | exact trivial | go_keep
              clear hHeld
              have hHeld := hHeld2
              clear hK K hHeld2
              try simp only [Act.put, List.setIfInBounds_toArray, List.set_cons_zero, List.set_cons_succ]
              refine wpAnyH_ready (rs := [1]) (by kernel_rfl) (by simp) ?_
              refine AllReadyH.cons (o := { dst := some 71, op := Go.Op.load 37 (Go.Operand.tmp 70), type := 37, pos := "ref.go:50", after := #[{ on := 0, ground := Go.Ground.data }], guard := none }) rfl (fun K hK => ?_) AllReadyH.nil
              go_simp
              refine hK.out _ _ ?_ (fun hHeld2 => ?_)
              · first | exact trivial | go_keep
              clear hHeld
              have hHeld := hHeld2
              clear hK K hHeld2
              try simp only [Act.put, List.setIfInBounds_toArray, List.set_cons_zero, List.set_cons_succ]
              refine wpAnyH_ready (rs := [16]) (by kernel_rfl) (by simp) ?_
              refine AllReadyH.cons (o := { dst := some 86, op := Go.Op.call { callee := Go.Callee.builtin Go.Builtin.append, args := #[Go.Operand.tmp 71, Go.Operand.tmp 85], argTypes := #[37, 37] }, type := 37, pos := "ref.go:50", after := #[{ on := 1, ground := Go.Ground.data }, { on := 15, ground := Go.Ground.data }], guard := none }) rfl (fun K hK => ?_) AllReadyH.nil
              refine color_step (b0, b1, b2, b3) HTd.out.own HKN.out HTd.out.Bu (by rfl) (by rfl) (by rfl) (by rfl) ?_
              intro gg cap2 w7 ho7 hg7
              have hgA := (World.grownBy_alloc wr.drew (pcB (b0, b1, b2, b3)) (Value.slice La Ln Lc).ownBlock)
              have o7 := (hg7.block ob (Nat.lt_of_lt_of_le hol hgA.size) (HTd.out.apart HTd.out.olt)).trans (blk_al HTd.out.fob _)
              have f7 := blk_free o7 2
              have c7 : w7.cell? ⟨ob, 2, none⟩ = some (.slice La Ln Lc) := blk_cell o7 2
              have G7 := HGB.out w7 hg7
              have z0 : w7.cell? ⟨g, 0, none⟩ = some (.int .u8 (b0 : Int)) := G7.1
              have z1 : w7.cell? ⟨g, 1, none⟩ = some (.int .u8 (b1 : Int)) := G7.2.1
              have z2 : w7.cell? ⟨g, 2, none⟩ = some (.int .u8 (b2 : Int)) := G7.2.2.1
              have z3 : w7.cell? ⟨g, 3, none⟩ = some (.int .u8 (b3 : Int)) := G7.2.2.2
              have HT7 := Lib.hid ((HTd.out.grown (World.grownBy_alloc wr.drew (pcB (b0, b1, b2, b3)) none)).app hg7 ho7)
              clear ho7 hg7 hgA o7 G7
              refine hK.out _ _ ?_ (fun hHeld2 => ?_)
              · first | exact trivial | go_keep
              clear hHeld
              have hHeld := hHeld2
              clear hK K hHeld2
              try simp only [Act.put, List.setIfInBounds_toArray, List.set_cons_zero, List.set_cons_succ]
              refine wpAnyH_take (i := 17) (oi := { dst := some 87, op := Go.Op.fieldAddr 39 (Go.Operand.tmp 4) 2, type := 0, pos := "ref.go:50", after := #[{ on := 0, ground := Go.Ground.phase }, { on := 1, ground := Go.Ground.phase }, { on := 2, ground := Go.Ground.phase }, { on := 3, ground := Go.Ground.phase }, { on := 4, ground := Go.Ground.phase }, { on := 5, ground := Go.Ground.phase }, { on := 6, ground := Go.Ground.phase }, { on := 7, ground := Go.Ground.phase }, { on := 8, ground := Go.Ground.phase }, { on := 9, ground := Go.Ground.phase }, { on := 10, ground := Go.Ground.phase }, { on := 11, ground := Go.Ground.phase }, { on := 12, ground := Go.Ground.phase }, { on := 13, ground := Go.Ground.phase }, { on := 14, ground := Go.Ground.phase }, { on := 15, ground := Go.Ground.phase }, { on := 16, ground := Go.Ground.phase }], guard := none }) (v := ?v17_16) rfl (by kernel_rfl) (by kernel_rfl) (by kernel_rfl) (fun _ _ _ h => h) (Or.inl ⟨by rfl, ?hy17_16⟩) (by assumption) ?rest17_16
              case hy17_16 =>
                intro w' hSw
                try dsimp only at hSw
                go_simp
                try with_reducible rfl
              try simp only [Act.put, List.setIfInBounds_toArray, List.set_cons_zero, List.set_cons_succ]
              refine wpAnyH_ready (rs := [18]) (by kernel_rfl) (by simp) ?_
              refine AllReadyH.cons (o := { dst := none, op := Go.Op.store 37 (Go.Operand.tmp 87) (Go.Operand.tmp 86), type := 0, pos := "ref.go:50", after := #[{ on := 17, ground := Go.Ground.data }, { on := 16, ground := Go.Ground.data }, { on := 16, ground := Go.Ground.chain }, { on := 0, ground := Go.Ground.phase }, { on := 1, ground := Go.Ground.phase }, { on := 2, ground := Go.Ground.phase }, { on := 3, ground := Go.Ground.phase }, { on := 4, ground := Go.Ground.phase }, { on := 5, ground := Go.Ground.phase }, { on := 6, ground := Go.Ground.phase }, { on := 7, ground := Go.Ground.phase }, { on := 8, ground := Go.Ground.phase }, { on := 9, ground := Go.Ground.phase }, { on := 10, ground := Go.Ground.phase }, { on := 11, ground := Go.Ground.phase }, { on := 12, ground := Go.Ground.phase }, { on := 13, ground := Go.Ground.phase }, { on := 14, ground := Go.Ground.phase }, { on := 15, ground := Go.Ground.phase }, { on := 16, ground := Go.Ground.phase }], guard := none }) rfl (fun K hK => ?_) AllReadyH.nil
              go_simp
              refine hK.out _ _ ?_ (fun hHeld2 => ?_)
              · first | exact trivial | go_keep
              clear hHeld
              have hHeld := hHeld2
              clear hK K hHeld2
              try simp only [Act.put, List.setIfInBounds_toArray, List.set_cons_zero, List.set_cons_succ]
              refine wpAnyH_done (by kernel_rfl) ?_ _
              go_wp2
              go_roundg (n - (k + 1))
              case measure => omega
              case rel => exact ⟨k + 1, _, by omega, rfl, by go_num, HK1.out, by rw [qL_snoc, HQC.out]; exact HT7.out⟩
              -- ENDREG
      · obtain rfl : k = n := by omega
        have d2 : decide ((k : Int) < (k : Int)) = false := decide_eq_false (by omega)
        have o2 := HT.out.oc2
        have o3 := HT.out.oc3
        have o4 := HT.out.oc4
        have q0 := HT.out.rc0
        have q1 := HT.out.rc1
        have q2 := HT.out.rc2
        have q3 := HT.out.rc3
        have q4 := HT.out.rc4
        have f0 := HT.out.rfree 0
        have f1 := HT.out.rfree 1
        have f2 := HT.out.rfree 2
        have f3 := HT.out.rfree 3
        have f4 := HT.out.rfree 4
        have ro := HT.out.ro
        have ro' : ¬ ob = W.heap.size := fun h => ro h.symm
        go_wp2
        refine bodyPost_ret (v := .agg #[.int .i64 w, .int .i64 h, .slice La Ln Lc, .int .i64 0, .int .i64 0]) (by simp only [results, Tryz.results32]; go_simp) rfl ?_
        rw [← HQ.out]
        have t6 := Tn.own HT.out.g (show Tn wr (((((wr.setCell ⟨W.heap.size, 0, none⟩ (.int .i64 w)).setCell ⟨W.heap.size, 1, none⟩ (.int .i64 h)).setCell ⟨W.heap.size, 2, none⟩ (.slice La Ln Lc)).setCell ⟨W.heap.size, 3, none⟩ (.int .i64 0)).setCell ⟨W.heap.size, 4, none⟩ (.int .i64 0)) [W.heap.size] from (((((Tn.refl wr _).st (by simp)).st (by simp)).st (by simp)).st (by simp)).st (by simp)) (by intro i hi; simp at hi; left; omega)
        refine ⟨t6, .inr ⟨?_, _, rfl, ?_⟩⟩
        · rcases HWH.out.2.2 with ⟨e1, e2, e3⟩ | ⟨e1, e2, e3, e4⟩
          · exact e3
          · exfalso; have := HKK.out; omega
        · rw [qL_len]
          have hW := HT.out.Wh
          have o5 := ownsRow_setCell_below (ownsRow_setCell_below (ownsRow_setCell_below (ownsRow_setCell_below (ownsRow_setCell_below HT.out.own (a := ⟨W.heap.size, 0, none⟩) (by show W.heap.size < _; omega) (.int .i64 w)) (a := ⟨W.heap.size, 1, none⟩) (by show W.heap.size < _; omega) (.int .i64 h)) (a := ⟨W.heap.size, 2, none⟩) (by show W.heap.size < _; omega) (.slice La Ln Lc)) (a := ⟨W.heap.size, 3, none⟩) (by show W.heap.size < _; omega) (.int .i64 0)) (a := ⟨W.heap.size, 4, none⟩) (by show W.heap.size < _; omega) (.int .i64 0)
          exact o5.mono (by omega)

end Go.Proofs.YtboojlkncbipoaaGreat.Ff

/- Farbfeld: Is; heads of the law. -/
namespace Go.Proofs.YtboojlkncbipoaaGreat.Ff
open Go.ChangeShapes Go.WideShapes Go.ChangeAt Go.RowKit
open Go.Proofs.YtboojlkncbipoaaGreat.Le Go.Proofs.YtboojlkncbipoaaGreat.Tk Go.Proofs.YtboojlkncbipoaaGreat.Sr Go.Proofs.YtboojlkncbipoaaGreat.Sh Go.Proofs.YtboojlkncbipoaaGreat.Ra Go.Proofs.YtboojlkncbipoaaGreat.Qd
set_option linter.unusedVariables false

/-- Does a text begin so? -/
def isB (sg s : ByteArray) : Bool := decide (sg.size ≤ s.size) && ((s.extract 0 sg.size).toList == sg.toList)

set_option maxRecDepth 100000 in
theorem prefix_calls (s sg : ByteArray) (W : World) : Calls Tryz.prog 60 #[.string s, .string sg] W fun e w' => e = .returned (.bool (isB sg s)) ∧ W = w' := by
  have K : ∀ u, Calls Tryz.prog 104 #[.string s, .string sg] u fun e w' => e = .returned (.bool (isB sg s)) ∧ u = w' := by
    intro u
    by_cases hl : sg.size ≤ s.size
    · have d1 : decide ((sg.size : Int) ≤ (s.size : Int)) = true := decide_eq_true (by omega)
      have d1' : (sg.size : Int) ≤ (s.size : Int) := by omega
      rw [show isB sg s = ((s.extract 0 sg.size).toList == sg.toList) by unfold isB; rw [decide_eq_true hl]; rfl]
      go_enter Tryz.func104, Tryz.ntmps104
      go_wp2
      go_ret
      exact ⟨rfl, rfl⟩
    · have d1 : decide ((sg.size : Int) ≤ (s.size : Int)) = false := decide_eq_false (by omega)
      have d1' : ¬ (sg.size : Int) ≤ (s.size : Int) := by omega
      rw [show isB sg s = false by unfold isB; rw [decide_eq_false hl]; rfl]
      go_enter Tryz.func104, Tryz.ntmps104
      go_wp2
      go_ret
      exact ⟨rfl, rfl⟩
  have HK := Lib.hid K
  clear K
  go_enter Tryz.func60, Tryz.ntmps60
  go_wp2_with fail
  refine (HK.out _).mono ?_
  rintro e w' ⟨rfl, rfl⟩
  go_wp2
  go_ret
  exact ⟨rfl, rfl⟩
theorem is_calls (s : ByteArray) (W : World) : Calls Tryz.prog 34 #[.string s] W fun e w' => e = .returned (.bool (isB sgF s)) ∧ W = w' := by
  have HK := Lib.hid (prefix_calls s sgF)
  unfold sgF at HK
  unfold sgF
  obtain ⟨b, hb⟩ : ∃ b, isB (⟨#[102, 97, 114, 98, 102, 101, 108, 100]⟩ : ByteArray) s = b := ⟨_, rfl⟩
  rw [hb] at HK ⊢
  clear hb
  go_enter Tryz.func34, Tryz.ntmps34
  go_wp2_with fail
  refine (HK.out _).mono ?_
  rintro e w' ⟨rfl, rfl⟩
  go_wp2
  go_ret
  exact ⟨rfl, rfl⟩

/-- The document's Decode of any text. -/
theorem rdec_of {s : ByteArray} {v : TV} (C : Cl s v) (hs : s.size ≤ 1000) (W : World) :
    Calls Tryz.prog 32 #[.string s] W (DQ W v.w v.h v.f v.p (qL (cF s) (v.w * v.h))) := by
  cases C with
  | short h => exact rdec_short s h 0 0 _ W
  | bad K h16 M hk => exact rdec_bad s K _ _ _ _ M h16 (by omega) rfl rfl rfl rfl hk 0 0 _ W
  | cut k n w h h16 M ew eh hk hn hc h1 h2 =>
    have K := rdec_head s w h n k 1 s.size M h16 hs ew eh hk hn (.inr ⟨hc, h1, h2, rfl, rfl⟩) W
    rw [← hn] at K ⊢
    exact K
  | good n w h h16 M ew eh hk hn h1 =>
    have K := rdec_head s w h n n 0 0 M h16 hs ew eh hk hn (.inl ⟨rfl, h1, rfl⟩) W
    rw [← hn] at K ⊢
    exact K
/-- A class' numbers. -/
theorem cl_w0 {s : ByteArray} {v : TV} (C : Cl s v) : (v.w = 0 ∧ v.h = 0 ∧ v.f ≠ 0) ∨ (1 ≤ v.w ∧ v.w ≤ 16384 ∧ 1 ≤ v.h ∧ v.h ≤ 16384 ∧ v.A = rk (cF s) (v.w * v.h) (v.w * v.h)) := by
  cases C with
  | short h => exact .inl ⟨rfl, rfl, by show (1 : Nat) ≠ 0; decide⟩
  | bad K h16 M hk => exact .inl ⟨rfl, rfl, hk⟩
  | cut k n w h h16 M ew eh hk hn hc h1 h2 =>
    obtain ⟨_, w1, w2, g1, g2⟩ := kd0 (Nat.le_refl _) hk
    exact .inr ⟨w1, w2, g1, g2, by rw [← hn]⟩
  | good n w h h16 M ew eh hk hn h1 =>
    obtain ⟨_, w1, w2, g1, g2⟩ := kd0 (Nat.le_refl _) hk
    exact .inr ⟨w1, w2, g1, g2, by rw [← hn]⟩

set_option maxRecDepth 100000 in
set_option maxHeartbeats 4000000 in
theorem heads_bad (s : ByteArray) (f p : Nat) (hs : s.size ≤ 1000) (KD0 : ∀ (c l : Nat) (x : St) (u : World), Rd c l s 0 x u → x.r = 0 → x.st + 1 ≤ x.s → Calls Tryz.prog 72 #[.pointer (some ⟨c, 0, none⟩)] u (fun e w' => e = .returned (.tuple #[.int .i64 0, .int .i64 0, .agg #[.int .i64 f, .int .i64 6, .int .i64 p]]) ∧ Tn u w' [c, l]))
    (KR0 : ∀ u, Calls Tryz.prog 30 #[.string s] u fun e w' => e = .returned (.tuple #[.int .i64 0, .int .i64 0]) ∧ u.grownBy w' none) (KQ0 : ∀ u, Calls Tryz.prog 32 #[.string s] u fun e w' => e = .returned (.agg #[.int .i64 0, .int .i64 0, .slice none 0 0, .int .i64 f, .int .i64 p]) ∧ u.grownBy w' none) (W : World) :
    Calls Tryz.prog 33 #[.string s] W fun e w' => e = .returned (.bool true) ∧ W.grownBy w' none := by
  have KW := Lib.hid (fun u => wide_calls u)
  have KN := Lib.hid (fun u => new_calls 16384 16384 262144 1048576 u)
  have KS := Lib.hid (fun l u => snew_calls l s u (by omega))
  have hok : (St.new 16384 16384 262144 1048576).Ok := St.new_ok (by decide) (by decide) (by decide) (by decide)
  have hst : (St.new 16384 16384 262144 1048576).st + 1 ≤ (St.new 16384 16384 262144 1048576).s := by decide
  have hr : (St.new 16384 16384 262144 1048576).r = 0 := rfl
  obtain ⟨x0, hx0⟩ : ∃ x, St.new 16384 16384 262144 1048576 = x := ⟨_, rfl⟩
  rw [hx0] at KN hok hst hr
  have HOK := Lib.hid hok
  have KD := Lib.hid (fun c l u (R : Rd c l s 0 x0 u) => KD0 c l x0 u R hr hst)
  have KR := Lib.hid KR0
  have KQ := Lib.hid KQ0
  clear KQ0
  clear hx0 hok hst hr hs KD0 KR0
  go_enter Tryz.func33, Tryz.ntmps33
  go_wp2_with fail
  refine (KW.out _).mono ?_
  rintro e w0 ⟨rfl, g0⟩
  have HG0 := Lib.hid g0
  clear g0
  go_wp2_with fail
  refine (KN.out _).mono ?_
  rintro e w1 ⟨l, rfl, L1, g1, hl⟩
  have HG1 := Lib.hid (gb_trans HG0.out g1)
  have HL1 := Lib.hid L1
  have hlw1 := L1.lt
  have HLW := Lib.hid (show W.heap.size ≤ l by have := HG0.out.size; omega)
  clear L1 g1 hl
  go_wp2_with fail
  refine (KS.out l _).mono ?_
  rintro e w2 ⟨c, rfl, S2, g2, hc⟩
  have R2 : Rd c l s 0 x0 w2 := ⟨S2 hlw1, HL1.out.grown g2 (by simp), HOK.out⟩
  have HG2 := Lib.hid (gb_trans HG1.out g2)
  have HCW := Lib.hid (show W.heap.size ≤ c by have := HG1.out.size; omega)
  have HKD := Lib.hid (KD.out c l w2 R2)
  clear S2 g2 hc R2 HL1 hlw1 KD
  go_wp2_with fail
  refine HKD.out.mono ?_
  rintro e w3 ⟨rfl, T3⟩
  have G3 := Tn.own HG2.out T3 (by intro k hk; simp at hk; have := HCW.out; have := HLW.out; omega)
  have g4 := World.grownBy_alloc w3 (.cells #[.int .i64 f, .int .i64 6, .int .i64 p] 29) none
  have F4 : Fl w3.heap.size f 6 p (w3.alloc (.cells #[.int .i64 f, .int .i64 6, .int .i64 p] 29)) := blk_at
  have HG4 := Lib.hid (gb_trans G3 g4)
  have HF4 := Lib.hid F4
  clear G3 g4 F4 T3 HKD HG2
  go_wp2_with fail
  generalize w3.alloc (.cells #[.int .i64 f, .int .i64 6, .int .i64 p] 29) = w4 at HG4 HF4 ⊢
  refine (KR.out _).mono ?_
  rintro e w5 ⟨rfl, g5⟩
  have HG5 := Lib.hid (gb_trans HG4.out g5)
  have HF5 := Lib.hid (HF4.out.turned (Tn.gb g5 (S := []) (by simp)) (by simp))
  clear g5 HG4 HF4
  go_wp2_with fail
  refine (KQ.out _).mono ?_
  rintro e w6 ⟨rfl, g6⟩
  have g7 := World.grownBy_alloc w6 (.cells #[.int .i64 0, .int .i64 0, .slice none 0 0, .int .i64 f, .int .i64 p] 39) none
  have F7 := HF5.out.turned (Tn.gb (gb_trans g6 g7) (S := []) (by simp)) (by simp)
  have I7 : (w6.alloc (.cells #[.int .i64 0, .int .i64 0, .slice none 0 0, .int .i64 f, .int .i64 p] 39)).heap[w6.heap.size]? = _ := blk_at
  have HG7 := Lib.hid (gb_trans HG5.out (gb_trans g6 g7))
  have p0 := F7.c0
  have p1 := F7.c1
  have p2 := F7.c2
  have j3 := blk_cell I7 3
  have j4 := blk_cell I7 4
  simp only [List.getElem?_toArray, List.getElem?_cons_succ, List.getElem?_cons_zero] at j3 j4
  clear g6 g7 F7 I7 HG5 HF5
  go_wp2_with fail
  generalize w6.alloc (.cells #[.int .i64 0, .int .i64 0, .slice none 0 0, .int .i64 f, .int .i64 p] 39) = w7 at HG7 p0 p1 p2 j3 j4 ⊢
  go_wp2
  go_ret
  exact ⟨rfl, HG7.out⟩

set_option maxRecDepth 100000 in
set_option maxHeartbeats 4000000 in
theorem heads_ok (s : ByteArray) (gw gh : Nat) (hs : s.size ≤ 1000) (hgw : 1 ≤ gw) (KD0 : ∀ (c l : Nat) (x : St) (u : World), Rd c l s 0 x u → x.r = 0 → x.st + 1 ≤ x.s → Calls Tryz.prog 72 #[.pointer (some ⟨c, 0, none⟩)] u (fun e w' => e = .returned (.tuple #[.int .i64 gw, .int .i64 gh, .agg #[.int .i64 0, .int .i64 0, .int .i64 0]]) ∧ Tn u w' [c, l]))
    (KR0 : ∀ u, Calls Tryz.prog 30 #[.string s] u fun e w' => e = .returned (.tuple #[.int .i64 gw, .int .i64 gh]) ∧ u.grownBy w' none) (W : World) :
    Calls Tryz.prog 33 #[.string s] W fun e w' => e = .returned (.bool true) ∧ W.grownBy w' none := by
  have KW := Lib.hid (fun u => wide_calls u)
  have KN := Lib.hid (fun u => new_calls 16384 16384 262144 1048576 u)
  have KS := Lib.hid (fun l u => snew_calls l s u (by omega))
  have hok : (St.new 16384 16384 262144 1048576).Ok := St.new_ok (by decide) (by decide) (by decide) (by decide)
  have hst : (St.new 16384 16384 262144 1048576).st + 1 ≤ (St.new 16384 16384 262144 1048576).s := by decide
  have hr : (St.new 16384 16384 262144 1048576).r = 0 := rfl
  obtain ⟨x0, hx0⟩ : ∃ x, St.new 16384 16384 262144 1048576 = x := ⟨_, rfl⟩
  rw [hx0] at KN hok hst hr
  have HOK := Lib.hid hok
  have KD := Lib.hid (fun c l u (R : Rd c l s 0 x0 u) => KD0 c l x0 u R hr hst)
  have KR := Lib.hid KR0
  have d0 : ((gw : Int) == 0) = false := by rw [beq_eq_false_iff_ne]; omega
  have d0' : ¬ (gw : Int) = 0 := by omega
  clear hgw
  clear hx0 hok hst hr hs KD0 KR0
  go_enter Tryz.func33, Tryz.ntmps33
  go_wp2_with fail
  refine (KW.out _).mono ?_
  rintro e w0 ⟨rfl, g0⟩
  have HG0 := Lib.hid g0
  clear g0
  go_wp2_with fail
  refine (KN.out _).mono ?_
  rintro e w1 ⟨l, rfl, L1, g1, hl⟩
  have HG1 := Lib.hid (gb_trans HG0.out g1)
  have HL1 := Lib.hid L1
  have hlw1 := L1.lt
  have HLW := Lib.hid (show W.heap.size ≤ l by have := HG0.out.size; omega)
  clear L1 g1 hl
  go_wp2_with fail
  refine (KS.out l _).mono ?_
  rintro e w2 ⟨c, rfl, S2, g2, hc⟩
  have R2 : Rd c l s 0 x0 w2 := ⟨S2 hlw1, HL1.out.grown g2 (by simp), HOK.out⟩
  have HG2 := Lib.hid (gb_trans HG1.out g2)
  have HCW := Lib.hid (show W.heap.size ≤ c by have := HG1.out.size; omega)
  have HKD := Lib.hid (KD.out c l w2 R2)
  clear S2 g2 hc R2 HL1 hlw1 KD
  go_wp2_with fail
  refine HKD.out.mono ?_
  rintro e w3 ⟨rfl, T3⟩
  have G3 := Tn.own HG2.out T3 (by intro k hk; simp at hk; have := HCW.out; have := HLW.out; omega)
  have g4 := World.grownBy_alloc w3 (.cells #[.int .i64 0, .int .i64 0, .int .i64 0] 29) none
  have F4 : Fl w3.heap.size 0 0 0 (w3.alloc (.cells #[.int .i64 0, .int .i64 0, .int .i64 0] 29)) := blk_at
  have HG4 := Lib.hid (gb_trans G3 g4)
  have HF4 := Lib.hid F4
  clear G3 g4 F4 T3 HKD HG2
  go_wp2_with fail
  generalize w3.alloc (.cells #[.int .i64 0, .int .i64 0, .int .i64 0] 29) = w4 at HG4 HF4 ⊢
  refine (KR.out _).mono ?_
  rintro e w5 ⟨rfl, g5⟩
  have HG5 := Lib.hid (gb_trans HG4.out g5)
  have F5 := HF4.out.turned (Tn.gb g5 (S := []) (by simp)) (by simp)
  have p0 := F5.c0
  have p1 := F5.c1
  have p2 := F5.c2
  clear g5 HG4 HF4 F5
  go_wp2
  go_ret
  exact ⟨rfl, HG5.out⟩

theorem heads_of {s : ByteArray} {v : TV} (C : Cl s v) (hs : s.size ≤ 1000) (W : World) :
    Calls Tryz.prog 33 #[.string s] W fun e w' => e = .returned (.bool true) ∧ W.grownBy w' none := by
  have KD := sd_of C
  have KR := fun u => rsides_of C (by omega) u
  have KQ := fun u => rdec_of C hs u
  have KD : ∀ (c l : Nat) (x : St) (u : World), Rd c l s 0 x u → x.r = 0 → x.st + 1 ≤ x.s → Calls Tryz.prog 72 #[.pointer (some ⟨c, 0, none⟩)] u (fun e w' => e = .returned (.tuple #[.int .i64 v.w, .int .i64 v.h, if v.w = 0 then flF 6 v.f v.p else okT]) ∧ Tn u w' [c, l]) := KD
  rcases cl_w0 C with ⟨w0, h0, f0⟩ | ⟨w1, w2, h1, h2, hA⟩
  · rw [w0, h0] at KD KR
    simp only [if_true] at KD
    exact heads_bad s v.f v.p hs KD KR (fun u => (KQ u).mono (fun e w' ⟨g, h⟩ => by
      rcases h with ⟨_, h⟩ | ⟨h, _⟩
      · exact ⟨h, g⟩
      · exact absurd h f0)) W
  · rw [if_neg (by omega)] at KD
    exact heads_ok s v.w v.h hs w1 KD KR W

end Go.Proofs.YtboojlkncbipoaaGreat.Ff
