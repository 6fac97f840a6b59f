/- Texts of one kind, one behind the other: Qd1, Qd2. -/
import Derived.BigQuiet
import Derived.Deep.LoopGhost
import Derived.Deep.QuietTactic
import Derived.Test.YtmhghkgcfgacdaaGreatG33
/- The document's check of a head with a sign, layer 26 (written by wip/gen/chk13.py). -/
namespace Go.Proofs.YtmhghkgcfgacdaaGreat.Qo
open Go.ChangeShapes Go.WideShapes Go.ChangeAt Go.RowKit
open Go.Proofs.YtmhghkgcfgacdaaGreat.Le Go.Proofs.YtmhghkgcfgacdaaGreat.Tk Go.Proofs.YtmhghkgcfgacdaaGreat.Sr Go.Proofs.YtmhghkgcfgacdaaGreat.Sh Go.Proofs.YtmhghkgcfgacdaaGreat.Qw
open Go.Proofs.YtmhghkgcfgacdaaGreat.Ra hiding bt
set_option linter.unusedVariables false

def chK (c12 c13 : Nat) : Nat := if c12 ≠ 3 ∧ c12 ≠ 4 then 2 else if 1 < c13 then 2 else 0
def chP (c12 c13 : Nat) : Nat := if c12 ≠ 3 ∧ c12 ≠ 4 then 12 else if 1 < c13 then 13 else 0
/-- What is wrong with a head, the first thing; t: behind its sides. -/
def kdQ (K w h t : Nat) : Nat := if K < 4 then 2 else if sdK w ≠ 0 then sdK w else if sdK h ≠ 0 then sdK h else t
def ppQ (K w h t : Nat) : Nat := if K < 4 then K else if sdK w ≠ 0 then 4 else if sdK h ≠ 0 then 8 else t
/-- An image that is none: what is wrong. -/
def imB (k p : Int) : Array Value := #[.int .i64 0, .int .i64 0, .slice none 0 0, .int .i64 k, .int .i64 p]
theorem bad13_calls (k p : Int) (W : World) : Calls Tryz.prog 30 #[.int .i64 k, .int .i64 p] W fun e w' => e = .returned (.agg (imB k p)) ∧ W.grownBy w' none := by
  go_enter Tryz.func30, Tryz.ntmps30
  go_wp2
  refine bodyPost_ret (v := .agg (imB k p)) (by simp only [results, Tryz.results30, imB]; go_simp) rfl ⟨rfl, World.grownBy_alloc _ _ none⟩
theorem be_calls (s : ByteArray) (a : Nat) (w : World) : Calls Tryz.prog 19 #[.string (s.extract a (a + 4))] w fun e w' => e = .returned (.int .i64 (beV s a : Nat)) ∧ w = w' := rbe_calls _ w (ex_size s a)

set_option maxRecDepth 100000 in
set_option maxHeartbeats 4000000 in
theorem check_calls (s : ByteArray) (K w h kd pl : Nat) (M : MK sgQ s K) (hn : 14 ≤ s.size) (hs : s.size ≤ 9223372036854775807) (ew : beV s 4 = w) (eh : beV s 8 = h) (hkd : kdQ K w h (chK (bt s 12) (bt s 13)) = kd) (hpl : ppQ K w h (chP (bt s 12) (bt s 13)) = pl) (W : World) :
    Calls Tryz.prog 18 #[.string s] W fun e w' => e = .returned (.agg (imB kd pl)) ∧ W.grownBy w' none := by
  have KB := fun k p u => bad13_calls k p u
  unfold imB at KB
  have KB := Lib.hid KB
  have K1 : ∀ u, Calls Tryz.prog 19 #[.string (s.extract 4 8)] u fun e w' => e = .returned (.int .i64 (beV s 4 : Nat)) ∧ u = w' := fun u => be_calls s 4 u
  have K2 : ∀ u, Calls Tryz.prog 19 #[.string (s.extract 8 12)] u fun e w' => e = .returned (.int .i64 (beV s 8 : Nat)) ∧ u = w' := fun u => be_calls s 8 u
  rw [ew] at K1
  rw [eh] at K2
  have K1 := Lib.hid K1
  have K2 := Lib.hid K2
  obtain ⟨sg, hsg⟩ : ∃ sg, sgQ = sg := ⟨_, rfl⟩
  rw [hsg] at M
  have HSG := Lib.hid (show (⟨#[113, 111, 105, 102]⟩ : ByteArray) = sg from hsg)
  have hsz : sg.size = 4 := by rw [← hsg]; rfl
  have HM := Lib.hid M
  have HKD := Lib.hid (And.intro hkd hpl)
  have HN := Lib.hid hn
  have hKm : K ≤ 4 := by have := M.le; omega
  have HKM := Lib.hid hKm
  have G0 := Lib.hid (World.grownBy_alloc W (.cells #[.int .i64 0, .int .i64 0, .slice none 0 0, .int .i64 0, .int .i64 0] 39) none)
  have I0 := Lib.hid (blk_at (w := W) (o := .cells #[.int .i64 0, .int .i64 0, .slice none 0 0, .int .i64 0, .int .i64 0] 39))
  have HSZ := Lib.hid hsz
  clear M hkd hpl hn hsg hKm hsz ew eh
  go_enter Tryz.func18, Tryz.ntmps18
  go_wp2_with fail
  generalize W.alloc (.cells #[.int .i64 0, .int .i64 0, .slice none 0 0, .int .i64 0, .int .i64 0] 39) = w0 at G0 I0 ⊢
  rw [HSG.out]
  go_loopg [4] 5 (fun q iv wr => ∃ k : Nat, k ≤ K ∧ q = 5 - k ∧ iv = .int .i64 k ∧ W.grownBy wr none ∧ wr.heap[W.heap.size]? = some (.cells #[.int .i64 0, .int .i64 0, .slice none 0 0, .int .i64 0, .int .i64 0] 39 (0, 0)))
  case atStart => exact ⟨0, by omega, rfl, rfl, G0.out, I0.out⟩
  case round =>
    obtain ⟨k, hk, rfl, rfl, G, I⟩ := hrel
    have HG := Lib.hid G
    have HI := Lib.hid I
    clear G I G0 I0
    by_cases hlt : k < 4
    · have hks : k < sg.size := by have := HSZ.out; omega
      have hkb : k < s.size := by have := HN.out; omega
      have hcb := Tk.bt_at s k hkb
      have hcs := Tk.bt_at sg k hks
      have d1 : decide ((k : Int) < 4) = true := decide_eq_true (by omega)
      by_cases hkK : k < K
      · have he := HM.out.yes k hkK
        rw [he] at hcb
        obtain ⟨c, hc⟩ : ∃ c, bt sg k = c := ⟨_, rfl⟩
        rw [hc] at hcb hcs
        clear hc he
        go_wp2_with fail
        go_quiet (fail)
        have HG1 := Lib.hid (gb_trans HG.out (gb_drewN wr nq none))
        have HI1 := Lib.hid (((gb_drewN wr nq none).block _ (blk_lt HI.out) (by simp)).trans HI.out)
        generalize wr.drewN nq = w1 at HG1 HI1 ⊢
        go_wp2
        go_roundg (5 - (k + 1))
        case measure => omega
        case rel => exact ⟨k + 1, by omega, rfl, by go_num, HG1.out, HI1.out⟩
      · obtain rfl : k = K := by omega
        have he := HM.out.no hks
        obtain ⟨c, hc⟩ : ∃ c, bt s k = c := ⟨_, rfl⟩
        obtain ⟨d, hd⟩ : ∃ c, bt sg k = c := ⟨_, rfl⟩
        rw [hc, hd] at he
        rw [hc] at hcb
        rw [hd] at hcs
        have d2 : ((c : Int) != (d : Int)) = true := by rw [bne_iff_ne]; omega
        have d2' : ¬ (c : Int) = (d : Int) := by omega
        have E1 := Lib.hid (show kd = 2 ∧ pl = k by rw [← HKD.out.1, ← HKD.out.2]; unfold kdQ ppQ; rw [if_pos hlt, if_pos hlt]; exact ⟨rfl, rfl⟩)
        clear hc hd he hk
        go_wp2_with fail
        go_quiet (fail)
        have HG1 := Lib.hid (gb_trans HG.out (gb_drewN wr nq none))
        have HI1 := Lib.hid (((gb_drewN wr nq none).block _ (blk_lt HI.out) (by simp)).trans HI.out)
        clear HG HI
        generalize wr.drewN nq = w1 at HG1 HI1 ⊢
        have HG := HG1
        have HI := HI1
        clear HG1 HI1
        go_wp2_with fail
        refine (KB.out 2 (k : Int) _).mono ?_
        rintro e w2 ⟨rfl, G2⟩
        have I2 := (G2.block _ (blk_lt HI.out) (by simp)).trans HI.out
        have HG2 := Lib.hid (gb_trans HG.out G2)
        have q0 := blk_cell I2 0
        have q1 := blk_cell I2 1
        have q2 := blk_cell I2 2
        have q3 := blk_cell I2 3
        have q4 := blk_cell I2 4
        simp only [List.getElem?_toArray, List.getElem?_cons_succ, List.getElem?_cons_zero] at q0 q1 q2 q3 q4
        have f0 := blk_free I2 0
        have f1 := blk_free I2 1
        have f2 := blk_free I2 2
        have f3 := blk_free I2 3
        have f4 := blk_free I2 4
        clear I2 G2 HG HI
        go_wp2
        refine bodyPost_ret (v := .agg (imB 2 (k : Int))) (by simp only [results, Tryz.results18, imB]; go_simp) rfl ⟨?_, ?_⟩
        · rw [E1.out.1, E1.out.2]; rfl
        · exact Tn.own HG2.out (show Tn w2 (((((w2.setCell ⟨W.heap.size, 0, none⟩ (.int .i64 0)).setCell ⟨W.heap.size, 1, none⟩ (.int .i64 0)).setCell ⟨W.heap.size, 2, none⟩ (.slice none 0 0)).setCell ⟨W.heap.size, 3, none⟩ (.int .i64 2)).setCell ⟨W.heap.size, 4, none⟩ (.int .i64 (k : Int))) [W.heap.size] from (((((Tn.refl w2 _).st (by simp)).st (by simp)).st (by simp)).st (by simp)).st (by simp)) (by intro i hi; simp at hi; left; omega)
    · have d1 : decide ((k : Int) < 4) = false := decide_eq_false (by omega)
      have hK8 : K = 4 := by have := HKM.out; omega
      have E0 := Lib.hid (show kd = (if sdK w ≠ 0 then sdK w else if sdK h ≠ 0 then sdK h else chK (bt s 12) (bt s 13)) ∧ pl = (if sdK w ≠ 0 then 4 else if sdK h ≠ 0 then 8 else chP (bt s 12) (bt s 13)) by rw [← HKD.out.1, ← HKD.out.2]; unfold kdQ ppQ; rw [if_neg (show ¬ K < 4 by omega), if_neg (show ¬ K < 4 by omega)]; exact ⟨rfl, rfl⟩)
      clear hK8 hk
      go_wp2_with fail
      go_loopg [5, 6] 3 (fun q av vv wr2 => ∃ j : Nat, j ≤ 2 ∧ q = 3 - j ∧ av = .int .i64 (4 + 4 * j : Nat) ∧ (1 ≤ j → sdK w = 0) ∧ (2 ≤ j → sdK h = 0) ∧ W.grownBy wr2 none ∧ wr2.heap[W.heap.size]? = some (.cells #[.int .i64 0, .int .i64 0, .slice none 0 0, .int .i64 0, .int .i64 0] 39 (0, 0)))
      case atStart => exact ⟨0, by omega, rfl, rfl, by omega, by omega, HG.out, HI.out⟩
      case round =>
        clear HG HI
        obtain ⟨j, hj, rfl, rfl, hw0, hh0, G, I⟩ := hrel
        have HG := Lib.hid G
        have HI := Lib.hid I
        have HW0 := Lib.hid hw0
        have HH0 := Lib.hid hh0
        have hsn := HN.out
        clear G I hw0 hh0
        obtain rfl | rfl | rfl : j = 0 ∨ j = 1 ∨ j = 2 := by omega
        · have hsl : ∀ w, (Instr.slice 9 (.string s) (some (.int .i64 4)) (some (.int .i64 8)) none).run Tryz.prog w = .ok (.string (s.extract 4 8)) w := fun w => Sr.cut_at s 4 4 (by omega) w
          clear hj
          rw [show ((4 + 4 * 0 : Nat) : Int) = 4 from rfl]
          go_wp2_with fail
          refine (K1.out _).mono ?_
          rintro e w' ⟨rfl, rfl⟩
          by_cases e0 : w = 0
          · have d3 : ((w : Int) == 0) = true := by rw [beq_iff_eq]; omega
            have d3' : (w : Int) = 0 := by omega
            have E1 := Lib.hid (show kd = 2 ∧ pl = 4 by have hq : sdK w = 2 := (by unfold sdK; rw [if_pos e0]); rw [E0.out.1, E0.out.2, hq]; exact ⟨rfl, rfl⟩)
            clear e0
            go_wp2_with fail
            refine (KB.out 2 4 _).mono ?_
            rintro e w2 ⟨rfl, G2⟩
            have I2 := (G2.block _ (blk_lt HI.out) (by simp)).trans HI.out
            have HG2 := Lib.hid (gb_trans HG.out G2)
            have q0 := blk_cell I2 0
            have q1 := blk_cell I2 1
            have q2 := blk_cell I2 2
            have q3 := blk_cell I2 3
            have q4 := blk_cell I2 4
            simp only [List.getElem?_toArray, List.getElem?_cons_succ, List.getElem?_cons_zero] at q0 q1 q2 q3 q4
            have f0 := blk_free I2 0
            have f1 := blk_free I2 1
            have f2 := blk_free I2 2
            have f3 := blk_free I2 3
            have f4 := blk_free I2 4
            clear I2 G2 HG HI
            go_wp2
            refine bodyPost_ret (v := .agg (imB 2 4)) (by simp only [results, Tryz.results18, imB]; go_simp) rfl ⟨?_, ?_⟩
            · rw [E1.out.1, E1.out.2]; rfl
            · exact Tn.own HG2.out (show Tn w2 (((((w2.setCell ⟨W.heap.size, 0, none⟩ (.int .i64 0)).setCell ⟨W.heap.size, 1, none⟩ (.int .i64 0)).setCell ⟨W.heap.size, 2, none⟩ (.slice none 0 0)).setCell ⟨W.heap.size, 3, none⟩ (.int .i64 2)).setCell ⟨W.heap.size, 4, none⟩ (.int .i64 4)) [W.heap.size] from (((((Tn.refl w2 _).st (by simp)).st (by simp)).st (by simp)).st (by simp)).st (by simp)) (by intro i hi; simp at hi; left; omega)
          · have d3 : ((w : Int) == 0) = false := by rw [beq_eq_false_iff_ne]; omega
            have d3' : ¬ (w : Int) = 0 := by omega
            by_cases e1 : 16384 < w
            · have d4 : decide ((16384 : Int) < (w : Int)) = true := decide_eq_true (by omega)
              have E1 := Lib.hid (show kd = 3 ∧ pl = 4 by have hq : sdK w = 3 := (by unfold sdK; rw [if_neg e0, if_pos e1]); rw [E0.out.1, E0.out.2, hq]; exact ⟨rfl, rfl⟩)
              clear e0
              go_wp2_with fail
              refine (KB.out 3 4 _).mono ?_
              rintro e w2 ⟨rfl, G2⟩
              have I2 := (G2.block _ (blk_lt HI.out) (by simp)).trans HI.out
              have HG2 := Lib.hid (gb_trans HG.out G2)
              have q0 := blk_cell I2 0
              have q1 := blk_cell I2 1
              have q2 := blk_cell I2 2
              have q3 := blk_cell I2 3
              have q4 := blk_cell I2 4
              simp only [List.getElem?_toArray, List.getElem?_cons_succ, List.getElem?_cons_zero] at q0 q1 q2 q3 q4
              have f0 := blk_free I2 0
              have f1 := blk_free I2 1
              have f2 := blk_free I2 2
              have f3 := blk_free I2 3
              have f4 := blk_free I2 4
              clear I2 G2 HG HI
              go_wp2
              refine bodyPost_ret (v := .agg (imB 3 4)) (by simp only [results, Tryz.results18, imB]; go_simp) rfl ⟨?_, ?_⟩
              · rw [E1.out.1, E1.out.2]; rfl
              · exact Tn.own HG2.out (show Tn w2 (((((w2.setCell ⟨W.heap.size, 0, none⟩ (.int .i64 0)).setCell ⟨W.heap.size, 1, none⟩ (.int .i64 0)).setCell ⟨W.heap.size, 2, none⟩ (.slice none 0 0)).setCell ⟨W.heap.size, 3, none⟩ (.int .i64 3)).setCell ⟨W.heap.size, 4, none⟩ (.int .i64 4)) [W.heap.size] from (((((Tn.refl w2 _).st (by simp)).st (by simp)).st (by simp)).st (by simp)).st (by simp)) (by intro i hi; simp at hi; left; omega)
            · have d4 : decide ((16384 : Int) < (w : Int)) = false := decide_eq_false (by omega)
              have HZ := Lib.hid (show sdK w = 0 by unfold sdK; rw [if_neg e0, if_neg e1])
              clear e0
              go_wp2
              go_roundg 2
              case measure => omega
              case rel => exact ⟨1, by omega, rfl, rfl, fun _ => HZ.out, fun h2 => absurd h2 (by decide), HG.out, HI.out⟩
        · have hsl : ∀ w, (Instr.slice 9 (.string s) (some (.int .i64 8)) (some (.int .i64 12)) none).run Tryz.prog w = .ok (.string (s.extract 8 12)) w := fun w => Sr.cut_at s 8 4 (by omega) w
          clear hj
          rw [show ((4 + 4 * 1 : Nat) : Int) = 8 from rfl]
          go_wp2_with fail
          refine (K2.out _).mono ?_
          rintro e w' ⟨rfl, rfl⟩
          by_cases e0 : h = 0
          · have d3 : ((h : Int) == 0) = true := by rw [beq_iff_eq]; omega
            have d3' : (h : Int) = 0 := by omega
            have E1 := Lib.hid (show kd = 2 ∧ pl = 8 by have hq : sdK h = 2 := (by unfold sdK; rw [if_pos e0]); have hw := HW0.out (by decide); rw [E0.out.1, E0.out.2, hw, hq]; exact ⟨rfl, rfl⟩)
            clear e0
            go_wp2_with fail
            refine (KB.out 2 8 _).mono ?_
            rintro e w2 ⟨rfl, G2⟩
            have I2 := (G2.block _ (blk_lt HI.out) (by simp)).trans HI.out
            have HG2 := Lib.hid (gb_trans HG.out G2)
            have q0 := blk_cell I2 0
            have q1 := blk_cell I2 1
            have q2 := blk_cell I2 2
            have q3 := blk_cell I2 3
            have q4 := blk_cell I2 4
            simp only [List.getElem?_toArray, List.getElem?_cons_succ, List.getElem?_cons_zero] at q0 q1 q2 q3 q4
            have f0 := blk_free I2 0
            have f1 := blk_free I2 1
            have f2 := blk_free I2 2
            have f3 := blk_free I2 3
            have f4 := blk_free I2 4
            clear I2 G2 HG HI
            go_wp2
            refine bodyPost_ret (v := .agg (imB 2 8)) (by simp only [results, Tryz.results18, imB]; go_simp) rfl ⟨?_, ?_⟩
            · rw [E1.out.1, E1.out.2]; rfl
            · exact Tn.own HG2.out (show Tn w2 (((((w2.setCell ⟨W.heap.size, 0, none⟩ (.int .i64 0)).setCell ⟨W.heap.size, 1, none⟩ (.int .i64 0)).setCell ⟨W.heap.size, 2, none⟩ (.slice none 0 0)).setCell ⟨W.heap.size, 3, none⟩ (.int .i64 2)).setCell ⟨W.heap.size, 4, none⟩ (.int .i64 8)) [W.heap.size] from (((((Tn.refl w2 _).st (by simp)).st (by simp)).st (by simp)).st (by simp)).st (by simp)) (by intro i hi; simp at hi; left; omega)
          · have d3 : ((h : Int) == 0) = false := by rw [beq_eq_false_iff_ne]; omega
            have d3' : ¬ (h : Int) = 0 := by omega
            by_cases e1 : 16384 < h
            · have d4 : decide ((16384 : Int) < (h : Int)) = true := decide_eq_true (by omega)
              have E1 := Lib.hid (show kd = 3 ∧ pl = 8 by have hq : sdK h = 3 := (by unfold sdK; rw [if_neg e0, if_pos e1]); have hw := HW0.out (by decide); rw [E0.out.1, E0.out.2, hw, hq]; exact ⟨rfl, rfl⟩)
              clear e0
              go_wp2_with fail
              refine (KB.out 3 8 _).mono ?_
              rintro e w2 ⟨rfl, G2⟩
              have I2 := (G2.block _ (blk_lt HI.out) (by simp)).trans HI.out
              have HG2 := Lib.hid (gb_trans HG.out G2)
              have q0 := blk_cell I2 0
              have q1 := blk_cell I2 1
              have q2 := blk_cell I2 2
              have q3 := blk_cell I2 3
              have q4 := blk_cell I2 4
              simp only [List.getElem?_toArray, List.getElem?_cons_succ, List.getElem?_cons_zero] at q0 q1 q2 q3 q4
              have f0 := blk_free I2 0
              have f1 := blk_free I2 1
              have f2 := blk_free I2 2
              have f3 := blk_free I2 3
              have f4 := blk_free I2 4
              clear I2 G2 HG HI
              go_wp2
              refine bodyPost_ret (v := .agg (imB 3 8)) (by simp only [results, Tryz.results18, imB]; go_simp) rfl ⟨?_, ?_⟩
              · rw [E1.out.1, E1.out.2]; rfl
              · exact Tn.own HG2.out (show Tn w2 (((((w2.setCell ⟨W.heap.size, 0, none⟩ (.int .i64 0)).setCell ⟨W.heap.size, 1, none⟩ (.int .i64 0)).setCell ⟨W.heap.size, 2, none⟩ (.slice none 0 0)).setCell ⟨W.heap.size, 3, none⟩ (.int .i64 3)).setCell ⟨W.heap.size, 4, none⟩ (.int .i64 8)) [W.heap.size] from (((((Tn.refl w2 _).st (by simp)).st (by simp)).st (by simp)).st (by simp)).st (by simp)) (by intro i hi; simp at hi; left; omega)
            · have d4 : decide ((16384 : Int) < (h : Int)) = false := decide_eq_false (by omega)
              have HZ := Lib.hid (show sdK h = 0 by unfold sdK; rw [if_neg e0, if_neg e1])
              clear e0
              go_wp2
              go_roundg 1
              case measure => omega
              case rel => exact ⟨2, by omega, rfl, rfl, fun _ => HW0.out (by decide), fun h2 => HZ.out, HG.out, HI.out⟩
        · have hZW := HW0.out (by decide)
          have hZH := HH0.out (by decide)
          obtain ⟨c12, h12⟩ : ∃ c, bt s 12 = c := ⟨_, rfl⟩
          obtain ⟨c13, h13⟩ : ∃ c, bt s 13 = c := ⟨_, rfl⟩
          have ET := Lib.hid (show kd = chK c12 c13 ∧ pl = chP c12 c13 by rw [E0.out.1, E0.out.2, h12, h13, hZW, hZH]; exact ⟨rfl, rfl⟩)
          have k12 : 12 < s.size := by have := HN.out; omega
          have k13 : 13 < s.size := by have := HN.out; omega
          have y12 := Tk.bt_at s 12 k12
          have y13 := Tk.bt_at s 13 k13
          rw [h12] at y12
          rw [h13] at y13
          clear hj hZW hZH h12 h13 hsn
          rw [show ((4 + 4 * 2 : Nat) : Int) = 12 from rfl]
          by_cases hc : c12 = 3 ∨ c12 = 4
          · by_cases hs : 1 < c13
            · have E1 := Lib.hid (show kd = 2 ∧ pl = 13 by rw [ET.out.1, ET.out.2]; unfold chK chP; have hA : ¬ (c12 ≠ 3 ∧ c12 ≠ 4) := (by omega); rw [if_neg hA, if_neg hA, if_pos hs, if_pos hs]; exact ⟨rfl, rfl⟩)
              have g1 : ((1 : Int) < (c13 : Int)) := by omega
              have g2 : decide ((1 : Int) < (c13 : Int)) = true := decide_eq_true g1
              rcases hc with hc | hc
              · have e3 : ((c12 : Int) == 3) = true := by rw [beq_iff_eq]; omega
                have e3' : ((c12 : Int) != 3) = false := by rw [bne_eq_false_iff_eq]; omega
                have e4 : ((c12 : Int) == 4) = false := by rw [beq_eq_false_iff_ne]; omega
                have e4' : ((c12 : Int) != 4) = true := by rw [bne_iff_ne]; omega
                clear hc hs
                go_wp2_with fail
                refine (KB.out 2 13 _).mono ?_
                rintro e w2 ⟨rfl, G2⟩
                have I2 := (G2.block _ (blk_lt HI.out) (by simp)).trans HI.out
                have HG2 := Lib.hid (gb_trans HG.out G2)
                have q0 := blk_cell I2 0
                have q1 := blk_cell I2 1
                have q2 := blk_cell I2 2
                have q3 := blk_cell I2 3
                have q4 := blk_cell I2 4
                simp only [List.getElem?_toArray, List.getElem?_cons_succ, List.getElem?_cons_zero] at q0 q1 q2 q3 q4
                have f0 := blk_free I2 0
                have f1 := blk_free I2 1
                have f2 := blk_free I2 2
                have f3 := blk_free I2 3
                have f4 := blk_free I2 4
                clear I2 G2 HG HI
                go_wp2
                refine bodyPost_ret (v := .agg (imB 2 13)) (by simp only [results, Tryz.results18, imB]; go_simp) rfl ⟨?_, ?_⟩
                · rw [E1.out.1, E1.out.2]; rfl
                · exact Tn.own HG2.out (show Tn w2 (((((w2.setCell ⟨W.heap.size, 0, none⟩ (.int .i64 0)).setCell ⟨W.heap.size, 1, none⟩ (.int .i64 0)).setCell ⟨W.heap.size, 2, none⟩ (.slice none 0 0)).setCell ⟨W.heap.size, 3, none⟩ (.int .i64 2)).setCell ⟨W.heap.size, 4, none⟩ (.int .i64 13)) [W.heap.size] from (((((Tn.refl w2 _).st (by simp)).st (by simp)).st (by simp)).st (by simp)).st (by simp)) (by intro i hi; simp at hi; left; omega)
              · have e3 : ((c12 : Int) == 3) = false := by rw [beq_eq_false_iff_ne]; omega
                have e3' : ((c12 : Int) != 3) = true := by rw [bne_iff_ne]; omega
                have e4 : ((c12 : Int) == 4) = true := by rw [beq_iff_eq]; omega
                have e4' : ((c12 : Int) != 4) = false := by rw [bne_eq_false_iff_eq]; omega
                clear hc hs
                go_wp2_with fail
                refine (KB.out 2 13 _).mono ?_
                rintro e w2 ⟨rfl, G2⟩
                have I2 := (G2.block _ (blk_lt HI.out) (by simp)).trans HI.out
                have HG2 := Lib.hid (gb_trans HG.out G2)
                have q0 := blk_cell I2 0
                have q1 := blk_cell I2 1
                have q2 := blk_cell I2 2
                have q3 := blk_cell I2 3
                have q4 := blk_cell I2 4
                simp only [List.getElem?_toArray, List.getElem?_cons_succ, List.getElem?_cons_zero] at q0 q1 q2 q3 q4
                have f0 := blk_free I2 0
                have f1 := blk_free I2 1
                have f2 := blk_free I2 2
                have f3 := blk_free I2 3
                have f4 := blk_free I2 4
                clear I2 G2 HG HI
                go_wp2
                refine bodyPost_ret (v := .agg (imB 2 13)) (by simp only [results, Tryz.results18, imB]; go_simp) rfl ⟨?_, ?_⟩
                · rw [E1.out.1, E1.out.2]; rfl
                · exact Tn.own HG2.out (show Tn w2 (((((w2.setCell ⟨W.heap.size, 0, none⟩ (.int .i64 0)).setCell ⟨W.heap.size, 1, none⟩ (.int .i64 0)).setCell ⟨W.heap.size, 2, none⟩ (.slice none 0 0)).setCell ⟨W.heap.size, 3, none⟩ (.int .i64 2)).setCell ⟨W.heap.size, 4, none⟩ (.int .i64 13)) [W.heap.size] from (((((Tn.refl w2 _).st (by simp)).st (by simp)).st (by simp)).st (by simp)).st (by simp)) (by intro i hi; simp at hi; left; omega)
            · have E1 := Lib.hid (show kd = 0 ∧ pl = 0 by rw [ET.out.1, ET.out.2]; unfold chK chP; have hA : ¬ (c12 ≠ 3 ∧ c12 ≠ 4) := (by omega); rw [if_neg hA, if_neg hA, if_neg hs, if_neg hs]; exact ⟨rfl, rfl⟩)
              have g1 : ¬ ((1 : Int) < (c13 : Int)) := by omega
              have g2 : decide ((1 : Int) < (c13 : Int)) = false := decide_eq_false g1
              rcases hc with hc | hc
              · have e3 : ((c12 : Int) == 3) = true := by rw [beq_iff_eq]; omega
                have e3' : ((c12 : Int) != 3) = false := by rw [bne_eq_false_iff_eq]; omega
                have e4 : ((c12 : Int) == 4) = false := by rw [beq_eq_false_iff_ne]; omega
                have e4' : ((c12 : Int) != 4) = true := by rw [bne_iff_ne]; omega
                clear hc hs
                have I2 := HI.out
                have q0 := blk_cell I2 0
                have q1 := blk_cell I2 1
                have q2 := blk_cell I2 2
                have q3 := blk_cell I2 3
                have q4 := blk_cell I2 4
                simp only [List.getElem?_toArray, List.getElem?_cons_succ, List.getElem?_cons_zero] at q0 q1 q2 q3 q4
                have f0 := blk_free I2 0
                have f1 := blk_free I2 1
                have f2 := blk_free I2 2
                have f3 := blk_free I2 3
                have f4 := blk_free I2 4
                clear I2
                go_wp2
                refine bodyPost_ret (v := .agg (imB 0 0)) (by simp only [results, Tryz.results18, imB]; go_simp) rfl ⟨?_, ?_⟩
                · rw [E1.out.1, E1.out.2]; rfl
                · exact Tn.own HG.out (show Tn wr (((((wr.setCell ⟨W.heap.size, 0, none⟩ (.int .i64 0)).setCell ⟨W.heap.size, 1, none⟩ (.int .i64 0)).setCell ⟨W.heap.size, 2, none⟩ (.slice none 0 0)).setCell ⟨W.heap.size, 3, none⟩ (.int .i64 0)).setCell ⟨W.heap.size, 4, none⟩ (.int .i64 0)) [W.heap.size] from (((((Tn.refl wr _).st (by simp)).st (by simp)).st (by simp)).st (by simp)).st (by simp)) (by intro i hi; simp at hi; left; omega)
              · have e3 : ((c12 : Int) == 3) = false := by rw [beq_eq_false_iff_ne]; omega
                have e3' : ((c12 : Int) != 3) = true := by rw [bne_iff_ne]; omega
                have e4 : ((c12 : Int) == 4) = true := by rw [beq_iff_eq]; omega
                have e4' : ((c12 : Int) != 4) = false := by rw [bne_eq_false_iff_eq]; omega
                clear hc hs
                have I2 := HI.out
                have q0 := blk_cell I2 0
                have q1 := blk_cell I2 1
                have q2 := blk_cell I2 2
                have q3 := blk_cell I2 3
                have q4 := blk_cell I2 4
                simp only [List.getElem?_toArray, List.getElem?_cons_succ, List.getElem?_cons_zero] at q0 q1 q2 q3 q4
                have f0 := blk_free I2 0
                have f1 := blk_free I2 1
                have f2 := blk_free I2 2
                have f3 := blk_free I2 3
                have f4 := blk_free I2 4
                clear I2
                go_wp2
                refine bodyPost_ret (v := .agg (imB 0 0)) (by simp only [results, Tryz.results18, imB]; go_simp) rfl ⟨?_, ?_⟩
                · rw [E1.out.1, E1.out.2]; rfl
                · exact Tn.own HG.out (show Tn wr (((((wr.setCell ⟨W.heap.size, 0, none⟩ (.int .i64 0)).setCell ⟨W.heap.size, 1, none⟩ (.int .i64 0)).setCell ⟨W.heap.size, 2, none⟩ (.slice none 0 0)).setCell ⟨W.heap.size, 3, none⟩ (.int .i64 0)).setCell ⟨W.heap.size, 4, none⟩ (.int .i64 0)) [W.heap.size] from (((((Tn.refl wr _).st (by simp)).st (by simp)).st (by simp)).st (by simp)).st (by simp)) (by intro i hi; simp at hi; left; omega)
          · have E1 := Lib.hid (show kd = 2 ∧ pl = 12 by rw [ET.out.1, ET.out.2]; unfold chK chP; have hA : c12 ≠ 3 ∧ c12 ≠ 4 := (by omega); rw [if_pos hA, if_pos hA]; exact ⟨rfl, rfl⟩)
            have e3 : ((c12 : Int) == 3) = false := by rw [beq_eq_false_iff_ne]; omega
            have e3' : ((c12 : Int) != 3) = true := by rw [bne_iff_ne]; omega
            have e4 : ((c12 : Int) == 4) = false := by rw [beq_eq_false_iff_ne]; omega
            have e4' : ((c12 : Int) != 4) = true := by rw [bne_iff_ne]; omega
            clear hc
            go_wp2_with fail
            refine (KB.out 2 12 _).mono ?_
            rintro e w2 ⟨rfl, G2⟩
            have I2 := (G2.block _ (blk_lt HI.out) (by simp)).trans HI.out
            have HG2 := Lib.hid (gb_trans HG.out G2)
            have q0 := blk_cell I2 0
            have q1 := blk_cell I2 1
            have q2 := blk_cell I2 2
            have q3 := blk_cell I2 3
            have q4 := blk_cell I2 4
            simp only [List.getElem?_toArray, List.getElem?_cons_succ, List.getElem?_cons_zero] at q0 q1 q2 q3 q4
            have f0 := blk_free I2 0
            have f1 := blk_free I2 1
            have f2 := blk_free I2 2
            have f3 := blk_free I2 3
            have f4 := blk_free I2 4
            clear I2 G2 HG HI
            go_wp2
            refine bodyPost_ret (v := .agg (imB 2 12)) (by simp only [results, Tryz.results18, imB]; go_simp) rfl ⟨?_, ?_⟩
            · rw [E1.out.1, E1.out.2]; rfl
            · exact Tn.own HG2.out (show Tn w2 (((((w2.setCell ⟨W.heap.size, 0, none⟩ (.int .i64 0)).setCell ⟨W.heap.size, 1, none⟩ (.int .i64 0)).setCell ⟨W.heap.size, 2, none⟩ (.slice none 0 0)).setCell ⟨W.heap.size, 3, none⟩ (.int .i64 2)).setCell ⟨W.heap.size, 4, none⟩ (.int .i64 12)) [W.heap.size] from (((((Tn.refl w2 _).st (by simp)).st (by simp)).st (by simp)).st (by simp)).st (by simp)) (by intro i hi; simp at hi; left; omega)

end Go.Proofs.YtmhghkgcfgacdaaGreat.Qo

/- The document's Sides of layer 26. -/
namespace Go.Proofs.YtmhghkgcfgacdaaGreat.Qo
open Go.ChangeShapes Go.WideShapes Go.ChangeAt Go.RowKit
open Go.Proofs.YtmhghkgcfgacdaaGreat.Le Go.Proofs.YtmhghkgcfgacdaaGreat.Tk Go.Proofs.YtmhghkgcfgacdaaGreat.Sr Go.Proofs.YtmhghkgcfgacdaaGreat.Sh Go.Proofs.YtmhghkgcfgacdaaGreat.Qw
open Go.Proofs.YtmhghkgcfgacdaaGreat.Ra hiding bt
set_option linter.unusedVariables false

set_option maxRecDepth 100000 in
theorem rsides_short (s : ByteArray) (h : s.size < 14) (W : World) :
    Calls Tryz.prog 6 #[.string s] W fun e w' => e = .returned (.tuple #[.int .i64 0, .int .i64 0]) ∧ W.grownBy w' none := by
  have d1 : decide ((s.size : Int) < 14) = true := decide_eq_true (by omega)
  have d1' : (s.size : Int) < 14 := by omega
  clear h
  go_enter Tryz.func6, Tryz.ntmps6
  go_wp2
  go_ret2
  exact ⟨rfl, gb_refl _ _⟩

set_option maxRecDepth 100000 in
theorem rsides_bad (s : ByteArray) (K w h kd pl : Nat) (M : MK sgQ s K) (hn : 14 ≤ s.size) (hs : s.size ≤ 9223372036854775807) (ew : beV s 4 = w) (eh : beV s 8 = h) (hkd : kdQ K w h (chK (bt s 12) (bt s 13)) = kd) (hpl : ppQ K w h (chP (bt s 12) (bt s 13)) = pl) (hne : kd ≠ 0) (W : World) :
    Calls Tryz.prog 6 #[.string s] W fun e w' => e = .returned (.tuple #[.int .i64 0, .int .i64 0]) ∧ W.grownBy w' none := by
  have KC := fun u => check_calls s K w h kd pl M hn hs ew eh hkd hpl u
  unfold imB at KC
  have KC := Lib.hid KC
  have hfl : ∀ w, (Instr.field 39 (.agg #[.int .i64 0, .int .i64 0, .slice none 0 0, .int .i64 kd, .int .i64 pl]) 3).run Tryz.prog w = .ok (.int .i64 kd) w := fun w => by kernel_rfl
  have d1 : decide ((s.size : Int) < 14) = false := decide_eq_false (by omega)
  have d1' : ¬ (s.size : Int) < 14 := by omega
  have d2 : ((kd : Int) != 0) = true := by rw [bne_iff_ne]; omega
  have d2' : ¬ (kd : Int) = 0 := by omega
  clear M hn hs ew eh hkd hpl hne
  go_enter Tryz.func6, Tryz.ntmps6
  go_wp2_with fail
  refine (KC.out _).mono ?_
  rintro e w1 ⟨rfl, g1⟩
  have HG := Lib.hid g1
  clear g1
  go_wp2
  go_ret2
  exact ⟨rfl, HG.out⟩

set_option maxRecDepth 100000 in
theorem rsides_ok (s : ByteArray) (w h : Nat) (M : MK sgQ s 4) (hn : 14 ≤ s.size) (hs : s.size ≤ 9223372036854775807) (ew : beV s 4 = w) (eh : beV s 8 = h) (hkd : kdQ 4 w h (chK (bt s 12) (bt s 13)) = 0) (W : World) :
    Calls Tryz.prog 6 #[.string s] W fun e w' => e = .returned (.tuple #[.int .i64 w, .int .i64 h]) ∧ W.grownBy w' none := by
  obtain ⟨pl, hpl⟩ : ∃ pl, ppQ 4 w h (chP (bt s 12) (bt s 13)) = pl := ⟨_, rfl⟩
  have KC := fun u => check_calls s 4 w h 0 pl M hn hs ew eh hkd hpl u
  unfold imB at KC
  have KC := Lib.hid KC
  have K1 : ∀ u, Calls Tryz.prog 19 #[.string (s.extract 4 8)] u fun e w' => e = .returned (.int .i64 (beV s 4 : Nat)) ∧ u = w' := fun u => be_calls s 4 u
  have K2 : ∀ u, Calls Tryz.prog 19 #[.string (s.extract 8 12)] u fun e w' => e = .returned (.int .i64 (beV s 8 : Nat)) ∧ u = w' := fun u => be_calls s 8 u
  rw [ew] at K1
  rw [eh] at K2
  have K1 := Lib.hid K1
  have K2 := Lib.hid K2
  have s1 : ∀ w, (Instr.slice 9 (.string s) (some (.int .i64 4)) (some (.int .i64 8)) none).run Tryz.prog w = .ok (.string (s.extract 4 8)) w := fun w => Sr.cut_at s 4 4 (by omega) w
  have s2 : ∀ w, (Instr.slice 9 (.string s) (some (.int .i64 8)) (some (.int .i64 12)) none).run Tryz.prog w = .ok (.string (s.extract 8 12)) w := fun w => Sr.cut_at s 8 4 (by omega) w
  have hfl : ∀ w, (Instr.field 39 (.agg #[.int .i64 0, .int .i64 0, .slice none 0 0, .int .i64 ((0 : Nat) : Int), .int .i64 pl]) 3).run Tryz.prog w = .ok (.int .i64 0) w := fun w => by kernel_rfl
  have hfl2 : ∀ w, (Instr.field 39 (.agg #[.int .i64 0, .int .i64 0, .slice none 0 0, .int .i64 0, .int .i64 pl]) 3).run Tryz.prog w = .ok (.int .i64 0) w := fun w => by kernel_rfl
  have d1 : decide ((s.size : Int) < 14) = false := decide_eq_false (by omega)
  have d1' : ¬ (s.size : Int) < 14 := by omega
  have HN := Lib.hid hn
  clear M hs ew eh hkd hpl hn
  go_enter Tryz.func6, Tryz.ntmps6
  go_wp2_with fail
  refine (KC.out _).mono ?_
  rintro e w1 ⟨rfl, g1⟩
  have HG := Lib.hid g1
  clear g1
  go_wp2_with fail
  go_quiet ((first
    | (go_at_call 19; with_reducible exact Calls.quiet_of_same ((K1.out _).mono (fun _ _ h => ⟨h.1, h.2.symm⟩)))
    | (go_at_call 19; with_reducible exact Calls.quiet_of_same ((K2.out _).mono (fun _ _ h => ⟨h.1, h.2.symm⟩)))))
  go_wp2
  go_ret2
  exact ⟨rfl, gb_trans HG.out (gb_drewN _ _ _)⟩

theorem kdq_bad {K w h : Nat} (t : Nat) (hK : K ≤ 4) (e : kdS 4 K w h ≠ 0) : kdQ K w h t = kdS 4 K w h := by
  unfold kdS at e ⊢
  unfold kdQ
  split
  · rfl
  · next h1 =>
    rw [if_neg h1] at e
    split
    · rfl
    · next h2 =>
      rw [if_neg h2] at e
      rw [if_pos e]
theorem kdq_ok {w h : Nat} (t : Nat) (e : kdS 4 4 w h = 0) : kdQ 4 w h t = t := by
  unfold kdS at e
  unfold kdQ
  rw [if_neg (by decide)] at e ⊢
  split at e
  · contradiction
  · next h2 => rw [if_neg h2, if_neg (by rw [e]; decide)]
theorem rsides_of {s : ByteArray} {v : TV} (C : Cl s v) (hs : s.size ≤ 9223372036854775807) (W : World) :
    Calls Tryz.prog 6 #[.string s] W fun e w' => e = .returned (.tuple #[.int .i64 v.w, .int .i64 v.h]) ∧ W.grownBy w' none := by
  cases C with
  | short h => exact rsides_short s h W
  | bad K h14 M hk => exact rsides_bad s K _ _ _ _ M h14 hs rfl rfl rfl rfl (by rw [kdq_bad _ M.le hk]; exact hk) W
  | chan h14 M hk h3 h4 => exact rsides_bad s 4 _ _ _ _ M h14 hs rfl rfl rfl rfl (by rw [kdq_ok _ hk]; unfold chK; rw [if_pos ⟨h3, h4⟩]; decide) W
  | space h14 M hk hc hs1 => exact rsides_bad s 4 _ _ _ _ M h14 hs rfl rfl rfl rfl (by rw [kdq_ok _ hk]; unfold chK; rw [if_neg (show ¬ (bt s 12 ≠ 3 ∧ bt s 12 ≠ 4) by omega), if_pos hs1]; decide) W
  | pix n w h J f p N h14 M ew eh hk hc hs1 hn E => exact rsides_ok s w h M h14 hs ew eh (by rw [kdq_ok _ hk]; unfold chK; rw [if_neg (show ¬ (bt s 12 ≠ 3 ∧ bt s 12 ≠ 4) by omega), if_neg (show ¬ 1 < bt s 13 by omega)]) W

end Go.Proofs.YtmhghkgcfgacdaaGreat.Qo
