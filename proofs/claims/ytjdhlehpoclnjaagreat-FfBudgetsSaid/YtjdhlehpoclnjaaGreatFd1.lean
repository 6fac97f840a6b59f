/- The document's check of a head with a sign, layer 27 (written by wip/gen/chk13.py). -/
import Derived.Test.YtjdhlehpoclnjaaGreatFf3
import Derived.Deep.LoopGhost
import Derived.Deep.QuietTactic
import Derived.BigQuiet
namespace Go.Proofs.YtjdhlehpoclnjaaGreat.Ff
open Go.ChangeShapes Go.WideShapes Go.ChangeAt Go.RowKit
open Go.Proofs.YtjdhlehpoclnjaaGreat.Le Go.Proofs.YtjdhlehpoclnjaaGreat.Tk Go.Proofs.YtjdhlehpoclnjaaGreat.Sr Go.Proofs.YtjdhlehpoclnjaaGreat.Sh
set_option linter.unusedVariables false

/-- An image that is none: what is wrong. -/
def imB (k p : Int) : Array Value := #[.int .i64 0, .int .i64 0, .slice none 0 0, .int .i64 k, .int .i64 p]
theorem bad13_calls (k p : Int) (W : World) : Calls Tryz.prog 46 #[.int .i64 k, .int .i64 p] W fun e w' => e = .returned (.agg (imB k p)) ∧ W.grownBy w' none := by
  go_enter Tryz.func46, Tryz.ntmps46
  go_wp2
  refine bodyPost_ret (v := .agg (imB k p)) (by simp only [results, Tryz.results46, imB]; go_simp) rfl ⟨rfl, World.grownBy_alloc _ _ none⟩
theorem be_calls (s : ByteArray) (a : Nat) (w : World) : Calls Tryz.prog 35 #[.string (s.extract a (a + 4))] w fun e w' => e = .returned (.int .i64 (beV s a : Nat)) ∧ w = w' := rbe_calls _ w (ex_size s a)

set_option maxRecDepth 100000 in
set_option maxHeartbeats 4000000 in
theorem check_calls (s : ByteArray) (K w h kd pl : Nat) (M : MK sgF s K) (hn : 16 ≤ s.size) (hs : s.size ≤ 9223372036854775807) (ew : beV s 8 = w) (eh : beV s 12 = h) (hkd : kdS 8 K w h = kd) (hpl : plS 8 K w h = pl) (W : World) :
    Calls Tryz.prog 60 #[.string s] W fun e w' => e = .returned (.agg (imB kd pl)) ∧ W.grownBy w' none := by
  have KB := fun k p u => bad13_calls k p u
  unfold imB at KB
  have KB := Lib.hid KB
  have K1 : ∀ u, Calls Tryz.prog 35 #[.string (s.extract 8 12)] u fun e w' => e = .returned (.int .i64 (beV s 8 : Nat)) ∧ u = w' := fun u => be_calls s 8 u
  have K2 : ∀ u, Calls Tryz.prog 35 #[.string (s.extract 12 16)] u fun e w' => e = .returned (.int .i64 (beV s 12 : Nat)) ∧ u = w' := fun u => be_calls s 12 u
  rw [ew] at K1
  rw [eh] at K2
  have K1 := Lib.hid K1
  have K2 := Lib.hid K2
  obtain ⟨sg, hsg⟩ : ∃ sg, sgF = sg := ⟨_, rfl⟩
  rw [hsg] at M
  have HSG := Lib.hid (show (⟨#[102, 97, 114, 98, 102, 101, 108, 100]⟩ : ByteArray) = sg from hsg)
  have hsz : sg.size = 8 := by rw [← hsg]; rfl
  have HM := Lib.hid M
  have HKD := Lib.hid (And.intro hkd hpl)
  have HN := Lib.hid hn
  have hKm : K ≤ 8 := by have := M.le; omega
  have HKM := Lib.hid hKm
  have G0 := Lib.hid (World.grownBy_alloc W (.cells #[.int .i64 0, .int .i64 0, .slice none 0 0, .int .i64 0, .int .i64 0] 39) none)
  have I0 := Lib.hid (blk_at (w := W) (o := .cells #[.int .i64 0, .int .i64 0, .slice none 0 0, .int .i64 0, .int .i64 0] 39))
  have HSZ := Lib.hid hsz
  clear M hkd hpl hn hsg hKm hsz ew eh
  go_enter Tryz.func60, Tryz.ntmps60
  go_wp2_with fail
  generalize W.alloc (.cells #[.int .i64 0, .int .i64 0, .slice none 0 0, .int .i64 0, .int .i64 0] 39) = w0 at G0 I0 ⊢
  rw [HSG.out]
  go_loopg [4] 9 (fun q iv wr => ∃ k : Nat, k ≤ K ∧ q = 9 - k ∧ iv = .int .i64 k ∧ W.grownBy wr none ∧ wr.heap[W.heap.size]? = some (.cells #[.int .i64 0, .int .i64 0, .slice none 0 0, .int .i64 0, .int .i64 0] 39 (0, 0)))
  case atStart => exact ⟨0, by omega, rfl, rfl, G0.out, I0.out⟩
  case round =>
    obtain ⟨k, hk, rfl, rfl, G, I⟩ := hrel
    have HG := Lib.hid G
    have HI := Lib.hid I
    clear G I G0 I0
    by_cases hlt : k < 8
    · have hks : k < sg.size := by have := HSZ.out; omega
      have hkb : k < s.size := by have := HN.out; omega
      have hcb := Tk.bt_at s k hkb
      have hcs := Tk.bt_at sg k hks
      have d1 : decide ((k : Int) < 8) = true := decide_eq_true (by omega)
      by_cases hkK : k < K
      · have he := HM.out.yes k hkK
        rw [he] at hcb
        obtain ⟨c, hc⟩ : ∃ c, bt sg k = c := ⟨_, rfl⟩
        rw [hc] at hcb hcs
        clear hc he
        go_wp2_with fail
        go_quiet (fail)
        have HG1 := Lib.hid (gb_trans HG.out (gb_drewN wr nq none))
        have HI1 := Lib.hid (((gb_drewN wr nq none).block _ (blk_lt HI.out) (by simp)).trans HI.out)
        generalize wr.drewN nq = w1 at HG1 HI1 ⊢
        go_wp2
        go_roundg (9 - (k + 1))
        case measure => omega
        case rel => exact ⟨k + 1, by omega, rfl, by go_num, HG1.out, HI1.out⟩
      · obtain rfl : k = K := by omega
        have he := HM.out.no hks
        obtain ⟨c, hc⟩ : ∃ c, bt s k = c := ⟨_, rfl⟩
        obtain ⟨d, hd⟩ : ∃ c, bt sg k = c := ⟨_, rfl⟩
        rw [hc, hd] at he
        rw [hc] at hcb
        rw [hd] at hcs
        have d2 : ((c : Int) != (d : Int)) = true := by rw [bne_iff_ne]; omega
        have d2' : ¬ (c : Int) = (d : Int) := by omega
        have E1 := Lib.hid (show kd = 2 ∧ pl = k by rw [← HKD.out.1, ← HKD.out.2]; unfold kdS plS; rw [if_pos hlt, if_pos hlt]; exact ⟨rfl, rfl⟩)
        clear hc hd he hk
        go_wp2_with fail
        go_quiet (fail)
        have HG1 := Lib.hid (gb_trans HG.out (gb_drewN wr nq none))
        have HI1 := Lib.hid (((gb_drewN wr nq none).block _ (blk_lt HI.out) (by simp)).trans HI.out)
        clear HG HI
        generalize wr.drewN nq = w1 at HG1 HI1 ⊢
        have HG := HG1
        have HI := HI1
        clear HG1 HI1
        go_wp2_with fail
        refine (KB.out 2 (k : Int) _).mono ?_
        rintro e w2 ⟨rfl, G2⟩
        have I2 := (G2.block _ (blk_lt HI.out) (by simp)).trans HI.out
        have HG2 := Lib.hid (gb_trans HG.out G2)
        have q0 := blk_cell I2 0
        have q1 := blk_cell I2 1
        have q2 := blk_cell I2 2
        have q3 := blk_cell I2 3
        have q4 := blk_cell I2 4
        simp only [List.getElem?_toArray, List.getElem?_cons_succ, List.getElem?_cons_zero] at q0 q1 q2 q3 q4
        have f0 := blk_free I2 0
        have f1 := blk_free I2 1
        have f2 := blk_free I2 2
        have f3 := blk_free I2 3
        have f4 := blk_free I2 4
        clear I2 G2 HG HI
        go_wp2
        refine bodyPost_ret (v := .agg (imB 2 (k : Int))) (by simp only [results, Tryz.results60, imB]; go_simp) rfl ⟨?_, ?_⟩
        · rw [E1.out.1, E1.out.2]; rfl
        · exact Tn.own HG2.out (show Tn w2 (((((w2.setCell ⟨W.heap.size, 0, none⟩ (.int .i64 0)).setCell ⟨W.heap.size, 1, none⟩ (.int .i64 0)).setCell ⟨W.heap.size, 2, none⟩ (.slice none 0 0)).setCell ⟨W.heap.size, 3, none⟩ (.int .i64 2)).setCell ⟨W.heap.size, 4, none⟩ (.int .i64 (k : Int))) [W.heap.size] from (((((Tn.refl w2 _).st (by simp)).st (by simp)).st (by simp)).st (by simp)).st (by simp)) (by intro i hi; simp at hi; left; omega)
    · have d1 : decide ((k : Int) < 8) = false := decide_eq_false (by omega)
      have hK8 : K = 8 := by have := HKM.out; omega
      have E0 := Lib.hid (show kd = (if sdK w ≠ 0 then sdK w else sdK h) ∧ pl = (if sdK w ≠ 0 then 8 else if sdK h ≠ 0 then 12 else 0) by rw [← HKD.out.1, ← HKD.out.2]; unfold kdS plS; rw [if_neg (show ¬ K < 8 by omega), if_neg (show ¬ K < 8 by omega)]; exact ⟨rfl, rfl⟩)
      clear hK8 hk
      go_wp2_with fail
      go_loopg [5, 6] 3 (fun q av vv wr2 => ∃ j : Nat, j ≤ 2 ∧ q = 3 - j ∧ av = .int .i64 (8 + 4 * j : Nat) ∧ (1 ≤ j → sdK w = 0) ∧ (2 ≤ j → sdK h = 0) ∧ W.grownBy wr2 none ∧ wr2.heap[W.heap.size]? = some (.cells #[.int .i64 0, .int .i64 0, .slice none 0 0, .int .i64 0, .int .i64 0] 39 (0, 0)))
      case atStart => exact ⟨0, by omega, rfl, rfl, by omega, by omega, HG.out, HI.out⟩
      case round =>
        clear HG HI
        obtain ⟨j, hj, rfl, rfl, hw0, hh0, G, I⟩ := hrel
        have HG := Lib.hid G
        have HI := Lib.hid I
        have HW0 := Lib.hid hw0
        have HH0 := Lib.hid hh0
        have hsn := HN.out
        clear G I hw0 hh0
        obtain rfl | rfl | rfl : j = 0 ∨ j = 1 ∨ j = 2 := by omega
        · have hsl : ∀ w, (Instr.slice 9 (.string s) (some (.int .i64 8)) (some (.int .i64 12)) none).run Tryz.prog w = .ok (.string (s.extract 8 12)) w := fun w => Sr.cut_at s 8 4 (by omega) w
          clear hj
          rw [show ((8 + 4 * 0 : Nat) : Int) = 8 from rfl]
          go_wp2_with fail
          refine (K1.out _).mono ?_
          rintro e w' ⟨rfl, rfl⟩
          by_cases e0 : w = 0
          · have d3 : ((w : Int) == 0) = true := by rw [beq_iff_eq]; omega
            have d3' : (w : Int) = 0 := by omega
            have E1 := Lib.hid (show kd = 2 ∧ pl = 8 by rw [E0.out.1, E0.out.2]; unfold sdK; rw [if_pos e0]; exact ⟨rfl, rfl⟩)
            clear e0
            go_wp2_with fail
            refine (KB.out 2 8 _).mono ?_
            rintro e w2 ⟨rfl, G2⟩
            have I2 := (G2.block _ (blk_lt HI.out) (by simp)).trans HI.out
            have HG2 := Lib.hid (gb_trans HG.out G2)
            have q0 := blk_cell I2 0
            have q1 := blk_cell I2 1
            have q2 := blk_cell I2 2
            have q3 := blk_cell I2 3
            have q4 := blk_cell I2 4
            simp only [List.getElem?_toArray, List.getElem?_cons_succ, List.getElem?_cons_zero] at q0 q1 q2 q3 q4
            have f0 := blk_free I2 0
            have f1 := blk_free I2 1
            have f2 := blk_free I2 2
            have f3 := blk_free I2 3
            have f4 := blk_free I2 4
            clear I2 G2 HG HI
            go_wp2
            refine bodyPost_ret (v := .agg (imB 2 8)) (by simp only [results, Tryz.results60, imB]; go_simp) rfl ⟨?_, ?_⟩
            · rw [E1.out.1, E1.out.2]; rfl
            · exact Tn.own HG2.out (show Tn w2 (((((w2.setCell ⟨W.heap.size, 0, none⟩ (.int .i64 0)).setCell ⟨W.heap.size, 1, none⟩ (.int .i64 0)).setCell ⟨W.heap.size, 2, none⟩ (.slice none 0 0)).setCell ⟨W.heap.size, 3, none⟩ (.int .i64 2)).setCell ⟨W.heap.size, 4, none⟩ (.int .i64 8)) [W.heap.size] from (((((Tn.refl w2 _).st (by simp)).st (by simp)).st (by simp)).st (by simp)).st (by simp)) (by intro i hi; simp at hi; left; omega)
          · have d3 : ((w : Int) == 0) = false := by rw [beq_eq_false_iff_ne]; omega
            have d3' : ¬ (w : Int) = 0 := by omega
            by_cases e1 : 16384 < w
            · have d4 : decide ((16384 : Int) < (w : Int)) = true := decide_eq_true (by omega)
              have E1 := Lib.hid (show kd = 3 ∧ pl = 8 by rw [E0.out.1, E0.out.2]; unfold sdK; rw [if_neg e0, if_pos e1]; exact ⟨rfl, rfl⟩)
              clear e0
              go_wp2_with fail
              refine (KB.out 3 8 _).mono ?_
              rintro e w2 ⟨rfl, G2⟩
              have I2 := (G2.block _ (blk_lt HI.out) (by simp)).trans HI.out
              have HG2 := Lib.hid (gb_trans HG.out G2)
              have q0 := blk_cell I2 0
              have q1 := blk_cell I2 1
              have q2 := blk_cell I2 2
              have q3 := blk_cell I2 3
              have q4 := blk_cell I2 4
              simp only [List.getElem?_toArray, List.getElem?_cons_succ, List.getElem?_cons_zero] at q0 q1 q2 q3 q4
              have f0 := blk_free I2 0
              have f1 := blk_free I2 1
              have f2 := blk_free I2 2
              have f3 := blk_free I2 3
              have f4 := blk_free I2 4
              clear I2 G2 HG HI
              go_wp2
              refine bodyPost_ret (v := .agg (imB 3 8)) (by simp only [results, Tryz.results60, imB]; go_simp) rfl ⟨?_, ?_⟩
              · rw [E1.out.1, E1.out.2]; rfl
              · exact Tn.own HG2.out (show Tn w2 (((((w2.setCell ⟨W.heap.size, 0, none⟩ (.int .i64 0)).setCell ⟨W.heap.size, 1, none⟩ (.int .i64 0)).setCell ⟨W.heap.size, 2, none⟩ (.slice none 0 0)).setCell ⟨W.heap.size, 3, none⟩ (.int .i64 3)).setCell ⟨W.heap.size, 4, none⟩ (.int .i64 8)) [W.heap.size] from (((((Tn.refl w2 _).st (by simp)).st (by simp)).st (by simp)).st (by simp)).st (by simp)) (by intro i hi; simp at hi; left; omega)
            · have d4 : decide ((16384 : Int) < (w : Int)) = false := decide_eq_false (by omega)
              have HZ := Lib.hid (show sdK w = 0 by unfold sdK; rw [if_neg e0, if_neg e1])
              clear e0
              go_wp2
              go_roundg 2
              case measure => omega
              case rel => exact ⟨1, by omega, rfl, rfl, fun _ => HZ.out, fun h2 => absurd h2 (by decide), HG.out, HI.out⟩
        · have hsl : ∀ w, (Instr.slice 9 (.string s) (some (.int .i64 12)) (some (.int .i64 16)) none).run Tryz.prog w = .ok (.string (s.extract 12 16)) w := fun w => Sr.cut_at s 12 4 (by omega) w
          clear hj
          rw [show ((8 + 4 * 1 : Nat) : Int) = 12 from rfl]
          go_wp2_with fail
          refine (K2.out _).mono ?_
          rintro e w' ⟨rfl, rfl⟩
          by_cases e0 : h = 0
          · have d3 : ((h : Int) == 0) = true := by rw [beq_iff_eq]; omega
            have d3' : (h : Int) = 0 := by omega
            have E1 := Lib.hid (show kd = 2 ∧ pl = 12 by rw [E0.out.1, E0.out.2]; rw [if_neg (by rw [HW0.out (by decide)]; decide), if_neg (by rw [HW0.out (by decide)]; decide)]; unfold sdK; rw [if_pos e0]; exact ⟨rfl, rfl⟩)
            clear e0
            go_wp2_with fail
            refine (KB.out 2 12 _).mono ?_
            rintro e w2 ⟨rfl, G2⟩
            have I2 := (G2.block _ (blk_lt HI.out) (by simp)).trans HI.out
            have HG2 := Lib.hid (gb_trans HG.out G2)
            have q0 := blk_cell I2 0
            have q1 := blk_cell I2 1
            have q2 := blk_cell I2 2
            have q3 := blk_cell I2 3
            have q4 := blk_cell I2 4
            simp only [List.getElem?_toArray, List.getElem?_cons_succ, List.getElem?_cons_zero] at q0 q1 q2 q3 q4
            have f0 := blk_free I2 0
            have f1 := blk_free I2 1
            have f2 := blk_free I2 2
            have f3 := blk_free I2 3
            have f4 := blk_free I2 4
            clear I2 G2 HG HI
            go_wp2
            refine bodyPost_ret (v := .agg (imB 2 12)) (by simp only [results, Tryz.results60, imB]; go_simp) rfl ⟨?_, ?_⟩
            · rw [E1.out.1, E1.out.2]; rfl
            · exact Tn.own HG2.out (show Tn w2 (((((w2.setCell ⟨W.heap.size, 0, none⟩ (.int .i64 0)).setCell ⟨W.heap.size, 1, none⟩ (.int .i64 0)).setCell ⟨W.heap.size, 2, none⟩ (.slice none 0 0)).setCell ⟨W.heap.size, 3, none⟩ (.int .i64 2)).setCell ⟨W.heap.size, 4, none⟩ (.int .i64 12)) [W.heap.size] from (((((Tn.refl w2 _).st (by simp)).st (by simp)).st (by simp)).st (by simp)).st (by simp)) (by intro i hi; simp at hi; left; omega)
          · have d3 : ((h : Int) == 0) = false := by rw [beq_eq_false_iff_ne]; omega
            have d3' : ¬ (h : Int) = 0 := by omega
            by_cases e1 : 16384 < h
            · have d4 : decide ((16384 : Int) < (h : Int)) = true := decide_eq_true (by omega)
              have E1 := Lib.hid (show kd = 3 ∧ pl = 12 by rw [E0.out.1, E0.out.2]; rw [if_neg (by rw [HW0.out (by decide)]; decide), if_neg (by rw [HW0.out (by decide)]; decide)]; unfold sdK; rw [if_neg e0, if_pos e1]; exact ⟨rfl, rfl⟩)
              clear e0
              go_wp2_with fail
              refine (KB.out 3 12 _).mono ?_
              rintro e w2 ⟨rfl, G2⟩
              have I2 := (G2.block _ (blk_lt HI.out) (by simp)).trans HI.out
              have HG2 := Lib.hid (gb_trans HG.out G2)
              have q0 := blk_cell I2 0
              have q1 := blk_cell I2 1
              have q2 := blk_cell I2 2
              have q3 := blk_cell I2 3
              have q4 := blk_cell I2 4
              simp only [List.getElem?_toArray, List.getElem?_cons_succ, List.getElem?_cons_zero] at q0 q1 q2 q3 q4
              have f0 := blk_free I2 0
              have f1 := blk_free I2 1
              have f2 := blk_free I2 2
              have f3 := blk_free I2 3
              have f4 := blk_free I2 4
              clear I2 G2 HG HI
              go_wp2
              refine bodyPost_ret (v := .agg (imB 3 12)) (by simp only [results, Tryz.results60, imB]; go_simp) rfl ⟨?_, ?_⟩
              · rw [E1.out.1, E1.out.2]; rfl
              · exact Tn.own HG2.out (show Tn w2 (((((w2.setCell ⟨W.heap.size, 0, none⟩ (.int .i64 0)).setCell ⟨W.heap.size, 1, none⟩ (.int .i64 0)).setCell ⟨W.heap.size, 2, none⟩ (.slice none 0 0)).setCell ⟨W.heap.size, 3, none⟩ (.int .i64 3)).setCell ⟨W.heap.size, 4, none⟩ (.int .i64 12)) [W.heap.size] from (((((Tn.refl w2 _).st (by simp)).st (by simp)).st (by simp)).st (by simp)).st (by simp)) (by intro i hi; simp at hi; left; omega)
            · have d4 : decide ((16384 : Int) < (h : Int)) = false := decide_eq_false (by omega)
              have HZ := Lib.hid (show sdK h = 0 by unfold sdK; rw [if_neg e0, if_neg e1])
              clear e0
              go_wp2
              go_roundg 1
              case measure => omega
              case rel => exact ⟨2, by omega, rfl, rfl, fun _ => HW0.out (by decide), fun h2 => HZ.out, HG.out, HI.out⟩
        · have I2 := HI.out
          have E1 := Lib.hid (show kd = 0 ∧ pl = 0 by rw [E0.out.1, E0.out.2, HW0.out (by decide), HH0.out (by decide)]; exact ⟨rfl, rfl⟩)
          have q0 := blk_cell I2 0
          have q1 := blk_cell I2 1
          have q2 := blk_cell I2 2
          have q3 := blk_cell I2 3
          have q4 := blk_cell I2 4
          simp only [List.getElem?_toArray, List.getElem?_cons_succ, List.getElem?_cons_zero] at q0 q1 q2 q3 q4
          have f0 := blk_free I2 0
          have f1 := blk_free I2 1
          have f2 := blk_free I2 2
          have f3 := blk_free I2 3
          have f4 := blk_free I2 4
          clear I2 hj
          rw [show ((8 + 4 * 2 : Nat) : Int) = 16 from rfl]
          go_wp2
          refine bodyPost_ret (v := .agg (imB 0 0)) (by simp only [results, Tryz.results60, imB]; go_simp) rfl ⟨?_, ?_⟩
          · rw [E1.out.1, E1.out.2]; rfl
          · exact Tn.own HG.out (show Tn wr (((((wr.setCell ⟨W.heap.size, 0, none⟩ (.int .i64 0)).setCell ⟨W.heap.size, 1, none⟩ (.int .i64 0)).setCell ⟨W.heap.size, 2, none⟩ (.slice none 0 0)).setCell ⟨W.heap.size, 3, none⟩ (.int .i64 0)).setCell ⟨W.heap.size, 4, none⟩ (.int .i64 0)) [W.heap.size] from (((((Tn.refl wr _).st (by simp)).st (by simp)).st (by simp)).st (by simp)).st (by simp)) (by intro i hi; simp at hi; left; omega)

end Go.Proofs.YtjdhlehpoclnjaaGreat.Ff
