/- Layer 12: the document's Read, walked (written by wip/gen/pnh3.py). -/
import Derived.Test.YtckkkdiekamiaaaTok6
import Derived.Test.YtckkkdiekamiaaaPnh2
import Derived.Test.YtckkkdiekamiaaaTok7
namespace Go.Proofs.Ytckkkdiekamiaaa.Ph
open Go.ChangeShapes Go.WideShapes Go.ChangeAt Go.RowKit
open Go.Proofs.Ytckkkdiekamiaaa.Le Go.Proofs.Ytckkkdiekamiaaa.Tk
set_option linter.unusedVariables false

/-- Block b is a head of the document's. -/
def Hb (b : Nat) (k w h m a f p : Int) (W : World) : Prop := W.heap[b]? = some (.cells #[.int .i64 k, .int .i64 w, .int .i64 h, .int .i64 m, .int .i64 a, .int .i64 f, .int .i64 p] 54 (0, 0))
section
variable {b : Nat} {k w h m a f p : Int} {W W' : World}
theorem Hb.c0 (H : Hb b k w h m a f p W) : W.cell? ⟨b, 0, none⟩ = some (.int .i64 k) := blk_cell H 0
theorem Hb.c1 (H : Hb b k w h m a f p W) : W.cell? ⟨b, 1, none⟩ = some (.int .i64 w) := blk_cell H 1
theorem Hb.c2 (H : Hb b k w h m a f p W) : W.cell? ⟨b, 2, none⟩ = some (.int .i64 h) := blk_cell H 2
theorem Hb.c3 (H : Hb b k w h m a f p W) : W.cell? ⟨b, 3, none⟩ = some (.int .i64 m) := blk_cell H 3
theorem Hb.c4 (H : Hb b k w h m a f p W) : W.cell? ⟨b, 4, none⟩ = some (.int .i64 a) := blk_cell H 4
theorem Hb.c5 (H : Hb b k w h m a f p W) : W.cell? ⟨b, 5, none⟩ = some (.int .i64 f) := blk_cell H 5
theorem Hb.c6 (H : Hb b k w h m a f p W) : W.cell? ⟨b, 6, none⟩ = some (.int .i64 p) := blk_cell H 6
theorem Hb.free (H : Hb b k w h m a f p W) (o : Nat) : W.frozen? ⟨b, o, none⟩ = false := blk_free H o
theorem Hb.lt (H : Hb b k w h m a f p W) : b < W.heap.size := blk_lt H
theorem Hb.grown {r : Option Nat} (H : Hb b k w h m a f p W) (g : W.grownBy W' r) (h1 : some b ≠ r) : Hb b k w h m a f p W' := (g.block b H.lt h1).trans H
theorem Hb.set1 (H : Hb b k w h m a f p W) (x : Int) : Hb b k x h m a f p (W.setCell ⟨b, 1, none⟩ (.int .i64 x)) := blk_set H 1 (.int .i64 x)
theorem Hb.set2 (H : Hb b k w h m a f p W) (x : Int) : Hb b k w x m a f p (W.setCell ⟨b, 2, none⟩ (.int .i64 x)) := blk_set H 2 (.int .i64 x)
theorem Hb.set3 (H : Hb b k w h m a f p W) (x : Int) : Hb b k w h x a f p (W.setCell ⟨b, 3, none⟩ (.int .i64 x)) := blk_set H 3 (.int .i64 x)
theorem Hb.oth {c o : Nat} {v : Value} (H : Hb b k w h m a f p W) (h1 : b ≠ c) : Hb b k w h m a f p (W.setCell ⟨c, o, none⟩ v) := blk_other H h1
theorem Hb.al (H : Hb b k w h m a f p W) (o : Obj) : Hb b k w h m a f p (W.alloc o) := blk_al H o
end
theorem gb_own1 {a b : World} {k o : Nat} {v : Value} (g : a.grownBy b none) (hk : a.heap.size ≤ k) : a.grownBy (b.setCell ⟨k, o, none⟩ v) none := gb_own g hk (gb_set _ _ _ _)
theorem gb_own7 {a b : World} {k : Nat} {v0 v1 v2 v3 v4 v5 v6 : Value} (g : a.grownBy b none) (hk : a.heap.size = k) :
    a.grownBy (((((((b.setCell ⟨k, 0, none⟩ v0).setCell ⟨k, 1, none⟩ v1).setCell ⟨k, 2, none⟩ v2).setCell ⟨k, 3, none⟩ v3).setCell ⟨k, 4, none⟩ v4).setCell ⟨k, 5, none⟩ v5).setCell ⟨k, 6, none⟩ v6) none :=
  have h : a.heap.size ≤ k := Nat.le_of_eq hk
  gb_own1 (gb_own1 (gb_own1 (gb_own1 (gb_own1 (gb_own1 (gb_own1 g h) h) h) h) h) h) h
def hdA (z : Hd) : Value := .agg #[.int .i64 z.k, .int .i64 z.w, .int .i64 z.h, .int .i64 z.m, .int .i64 z.a, .int .i64 z.f, .int .i64 z.p]

set_option maxRecDepth 100000 in
set_option maxHeartbeats 8000000 in
theorem rread_calls (s : ByteArray) (W : World) (hs : s.size ≤ 9223372036854775806) :
    Calls Try.prog 30 #[.string s] W fun e w' => e = .returned (hdA (readV s)) ∧ W.grownBy w' none := by
  obtain ⟨V, hV⟩ : ∃ V, readV s = V := ⟨_, rfl⟩
  rw [hV]
  have HV := Lib.hid hV.symm
  clear hV
  obtain ⟨r, hrw⟩ : ∃ r, W.heap.size = r := ⟨_, rfl⟩
  have HRW := Lib.hid hrw
  have HF0 : Hb r 0 0 0 0 0 0 0 (W.alloc (.cells #[.int .i64 0, .int .i64 0, .int .i64 0, .int .i64 0, .int .i64 0, .int .i64 0, .int .i64 0] 54)) := by
    rw [← hrw]
    exact blk_at
  have HG0 := Lib.hid (World.grownBy_alloc W (.cells #[.int .i64 0, .int .i64 0, .int .i64 0, .int .i64 0, .int .i64 0, .int .i64 0, .int .i64 0] 54) none)
  have hz0 := size_alloc W (.cells #[.int .i64 0, .int .i64 0, .int .i64 0, .int .i64 0, .int .i64 0, .int .i64 0, .int .i64 0] 54)
  rw [hrw] at hz0
  have HZ0 := Lib.hid hz0
  have HF0 := Lib.hid HF0
  clear hz0
  by_cases h0 : s.size < 1
  · have d0 : decide ((s.size : Int) < 1) = true := decide_eq_true (by omega)
    have hv := HV.out.trans (readV_0 h0)
    subst hv
    clear HV h0
    go_enter Try.func30, Try.ntmps30
    go_wp2_with fail
    generalize W.alloc (.cells #[.int .i64 0, .int .i64 0, .int .i64 0, .int .i64 0, .int .i64 0, .int .i64 0, .int .i64 0] 54) = w0 at HF0 HG0 HZ0 ⊢
    refine (rbad_calls 1 0 _).mono ?_
    rintro e w9 ⟨rfl, g9⟩
    have F9 := HF0.out.grown g9 (by simp)
    have rq0 := F9.c0
    have rq1 := F9.c1
    have rq2 := F9.c2
    have rq3 := F9.c3
    have rq4 := F9.c4
    have rq5 := F9.c5
    have rq6 := F9.c6
    have rf0 := F9.free 0
    have rf1 := F9.free 1
    have rf2 := F9.free 2
    have rf3 := F9.free 3
    have rf4 := F9.free 4
    have rf5 := F9.free 5
    have rf6 := F9.free 6
    have G9 := Lib.hid (gb_trans HG0.out g9)
    clear F9 g9
    go_wp2
    refine bodyPost_ret (v := hdA ⟨0, 0, 0, 0, 0, 1, 0⟩) (by simp only [results, Try.results30, hdA]; go_simp) rfl ⟨rfl, gb_own7 G9.out HRW.out⟩
  · have d0 : decide ((s.size : Int) < 1) = false := decide_eq_false (by omega)
    have hs0 : 0 < s.size := by omega
    obtain ⟨x, hx⟩ : ∃ x, bt s 0 = x := ⟨_, rfl⟩
    have hcx := bt_cell s 0 hs0 hx
    by_cases h1 : x = 80
    · have e1 : ((x : Int) == 80) = true := by rw [beq_iff_eq]; omega
      have e1' : ((x : Int) != 80) = false := by rw [bne_eq_false_iff_eq]; omega
      by_cases h2 : s.size < 2
      · have d1 : decide ((s.size : Int) < 2) = true := decide_eq_true (by omega)
        have hv := HV.out.trans (readV_2 h0 (hx.trans h1) h2)
        subst hv
        clear HV h0 h1 h2 hx
        go_enter Try.func30, Try.ntmps30
        go_wp2_with fail
        generalize W.alloc (.cells #[.int .i64 0, .int .i64 0, .int .i64 0, .int .i64 0, .int .i64 0, .int .i64 0, .int .i64 0] 54) = w0 at HF0 HG0 HZ0 ⊢
        refine (rbad_calls 1 1 _).mono ?_
        rintro e w9 ⟨rfl, g9⟩
        have F9 := HF0.out.grown g9 (by simp)
        have rq0 := F9.c0
        have rq1 := F9.c1
        have rq2 := F9.c2
        have rq3 := F9.c3
        have rq4 := F9.c4
        have rq5 := F9.c5
        have rq6 := F9.c6
        have rf0 := F9.free 0
        have rf1 := F9.free 1
        have rf2 := F9.free 2
        have rf3 := F9.free 3
        have rf4 := F9.free 4
        have rf5 := F9.free 5
        have rf6 := F9.free 6
        have G9 := Lib.hid (gb_trans HG0.out g9)
        clear F9 g9
        go_wp2
        refine bodyPost_ret (v := hdA ⟨0, 0, 0, 0, 0, 1, 1⟩) (by simp only [results, Try.results30, hdA]; go_simp) rfl ⟨rfl, gb_own7 G9.out HRW.out⟩
      · have d1 : decide ((s.size : Int) < 2) = false := decide_eq_false (by omega)
        have hs1 : 1 < s.size := by omega
        obtain ⟨y, hy⟩ : ∃ y, bt s 1 = y := ⟨_, rfl⟩
        have hcy := bt_cell s 1 hs1 hy
        have y256 : y < 256 := by rw [← hy]; exact bt_lt s 1
        by_cases h3 : 49 ≤ y ∧ y ≤ 54
        · obtain ⟨k, hk⟩ : ∃ k, y = k + 48 := ⟨y - 48, by omega⟩
          have hk6 : 1 ≤ k ∧ k ≤ 6 := by omega
          have hv := HV.out.trans (readV_4 (k := k) (by omega) (hx.trans h1) hk6 (hy.trans hk))
          have hyk : (y : Int) - 48 = k := by omega
          obtain ⟨hk1, hk7⟩ := hk6
          obtain ⟨R, hR⟩ : ∃ R, nums s k 3 nr0 = R := ⟨_, rfl⟩
          rw [hR] at hv
          have HRR := Lib.hid hR
          have HVV := Lib.hid hv
          clear HV h0 h1 h2 h3 hx hy hk hR hv
          have d3 : decide ((k : Int) < 1) = false := decide_eq_false (by omega)
          have d4 : decide ((6 : Int) < (k : Int)) = false := decide_eq_false (by omega)
          go_enter Try.func30, Try.ntmps30
          go_wp2_with fail
          generalize W.alloc (.cells #[.int .i64 0, .int .i64 0, .int .i64 0, .int .i64 0, .int .i64 0, .int .i64 0, .int .i64 0] 54) = w0 at HF0 HG0 HZ0 ⊢
          have hD : Hb (r + 1) k 0 0 1 0 0 0 (w0.alloc (.cells #[.int .i64 k, .int .i64 0, .int .i64 0, .int .i64 1, .int .i64 0, .int .i64 0, .int .i64 0] 54)) := by
            have := blk_at (w := w0) (o := .cells #[.int .i64 k, .int .i64 0, .int .i64 0, .int .i64 1, .int .i64 0, .int .i64 0, .int .i64 0] 54)
            rw [HZ0.out] at this
            exact this
          have HD := Lib.hid hD
          have HF1 := Lib.hid (HF0.out.al (.cells #[.int .i64 k, .int .i64 0, .int .i64 0, .int .i64 1, .int .i64 0, .int .i64 0, .int .i64 0] 54))
          have HG1 := Lib.hid (gb_trans HG0.out (World.grownBy_alloc w0 (.cells #[.int .i64 k, .int .i64 0, .int .i64 0, .int .i64 1, .int .i64 0, .int .i64 0, .int .i64 0] 54) none))
          clear hD HF0 HG0 HZ0 hrw d0 d1 hcx hcy e1 e1' d3 d4
          generalize w0.alloc (.cells #[.int .i64 k, .int .i64 0, .int .i64 0, .int .i64 1, .int .i64 0, .int .i64 0, .int .i64 0] 54) = w1 at HD HF1 HG1 ⊢
          obtain ⟨hd, hhd⟩ : ∃ hd, r + 1 = hd := ⟨_, rfl⟩
          rw [hhd] at HD ⊢
          have hne : ¬ hd = r := by omega
          have hne' : ¬ r = hd := by omega
          have HHD := Lib.hid hhd
          clear hhd
          go_loopg [5, 6] 3 (fun q av iv wr => ∃ i a w h m n : Nat, i ≤ 3 ∧ a ≤ s.size ∧ q = 3 - i ∧ av = .int .i64 a ∧ iv = .int .i64 i ∧ nums s k (3 - i) ⟨0, 0, a, w, h, m, n⟩ = R ∧ Hb hd k w h m 0 0 0 wr ∧ Hb r 0 0 0 0 0 0 0 wr ∧ W.grownBy wr none)
          case atStart => exact ⟨0, 2, 0, 0, 1, 2, by decide, by omega, rfl, rfl, rfl, HRR.out, HD.out, HF1.out, HG1.out⟩
          case round =>
            obtain ⟨i, a, w, h, m, n, hi, ha, rfl, rfl, rfl, J, D, F, G⟩ := hrel
            have HJ := Lib.hid J
            have HD2 := Lib.hid D
            have HF2 := Lib.hid F
            have HG2 := Lib.hid G
            clear J D F G HD HF1 HG1 HRR
            obtain rfl | rfl | rfl | rfl : i = 0 ∨ i = 1 ∨ i = 2 ∨ i = 3 := by omega
            · have KR := fun u => rnumber_calls s a u hs ha
              rcases gotV_gd s a ha with ⟨kd, pl, eg, hk0, hk3, hpl, _⟩ | ⟨v, f, j, eg, hkf, hfj, hjs, hv, hNj⟩
              · simp only [eg] at KR
                have KR := Lib.hid KR
                have hR := HJ.out.symm.trans (nums_fault (r := 2) (fun h => absurd h.1 (by decide)) eg hk0)
                have hv2 : V = ⟨0, 0, 0, 0, 0, kd, pl⟩ := by
                  rw [HVV.out, hR]
                  exact endV_fault hk0
                have d5 : ((kd : Int) == 0) = false := by rw [beq_eq_false_iff_ne]; omega
                have d5' : ((kd : Int) != 0) = true := by rw [bne_iff_ne]; omega
                subst hv2
                clear eg hR HJ HVV
                go_wp2_with fail
                refine (KR.out _).mono ?_
                rintro e w3 ⟨rfl, g3⟩
                have HF3 := Lib.hid ((HF2.out.grown g3 (by simp)).al (.cells #[.int .i64 0, .int .i64 0, .int .i64 0, .int .i64 kd, .int .i64 pl] 30))
                have HG3 := Lib.hid (gb_trans (gb_trans HG2.out g3) (World.grownBy_alloc w3 (.cells #[.int .i64 0, .int .i64 0, .int .i64 0, .int .i64 kd, .int .i64 pl] 30) none))
                clear g3 KR HF2 HG2 HD2
                simp only [gotA]
                go_wp2_with fail
                refine (rbad_calls kd pl _).mono ?_
                rintro e w9 ⟨rfl, g9⟩
                have F9 := HF3.out.grown g9 (by simp)
                have rq0 := F9.c0
                have rq1 := F9.c1
                have rq2 := F9.c2
                have rq3 := F9.c3
                have rq4 := F9.c4
                have rq5 := F9.c5
                have rq6 := F9.c6
                have rf0 := F9.free 0
                have rf1 := F9.free 1
                have rf2 := F9.free 2
                have rf3 := F9.free 3
                have rf4 := F9.free 4
                have rf5 := F9.free 5
                have rf6 := F9.free 6
                have G9 := Lib.hid (gb_trans HG3.out g9)
                clear F9 g9
                go_wp2
                refine bodyPost_ret (v := hdA ⟨0, 0, 0, 0, 0, kd, pl⟩) (by simp only [results, Try.results30, hdA]; go_simp) rfl ⟨rfl, gb_own7 G9.out HRW.out⟩
              · simp only [eg] at KR
                have KR := Lib.hid KR
                have hG3 := fun (u : World) (g : wr.grownBy u none) => gb_trans (gb_trans HG2.out g) (World.grownBy_alloc u (.cells #[.int .i64 v, .int .i64 f, .int .i64 j, .int .i64 0, .int .i64 0] 30) none)
                have hF3 := fun (u : World) (g : wr.grownBy u none) => (HF2.out.grown g (by simp)).al (.cells #[.int .i64 v, .int .i64 f, .int .i64 j, .int .i64 0, .int .i64 0] 30)
                have HG3 := Lib.hid hG3
                have HF3 := Lib.hid hF3
                clear hG3 hF3
                rcases (show v = 0 ∨ 16384 < v ∨ (v ≠ 0 ∧ v ≤ 16384) from by omega) with h0 | h0 | ⟨h0, h1⟩
                · have hR := HJ.out.symm.trans (nums_bad (r := 2) (fun h => absurd h.1 (by decide)) eg (.inl h0))
                  have hv2 : V = ⟨0, 0, 0, 0, 0, 2, f⟩ := by
                    rw [HVV.out, hR]
                    exact endV_fault (by show ¬ 2 = 0; decide)
                  have d6 : ((v : Int) == 0) = true := by rw [beq_iff_eq]; omega
                  clear h0
                  subst hv2
                  clear eg hR HJ HVV
                  go_wp2_with fail
                  refine (KR.out _).mono ?_
                  rintro e w3 ⟨rfl, g3⟩
                  have HF4 := Lib.hid (HF3.out _ g3)
                  have HG4 := Lib.hid (HG3.out _ g3)
                  clear g3 KR HF3 HG3 HF2 HG2 HD2
                  simp only [gotA]
                  go_wp2_with fail
                  refine (rbad_calls 2 f _).mono ?_
                  rintro e w9 ⟨rfl, g9⟩
                  have F9 := HF4.out.grown g9 (by simp)
                  have rq0 := F9.c0
                  have rq1 := F9.c1
                  have rq2 := F9.c2
                  have rq3 := F9.c3
                  have rq4 := F9.c4
                  have rq5 := F9.c5
                  have rq6 := F9.c6
                  have rf0 := F9.free 0
                  have rf1 := F9.free 1
                  have rf2 := F9.free 2
                  have rf3 := F9.free 3
                  have rf4 := F9.free 4
                  have rf5 := F9.free 5
                  have rf6 := F9.free 6
                  have G9 := Lib.hid (gb_trans HG4.out g9)
                  clear F9 g9
                  go_wp2
                  refine bodyPost_ret (v := hdA ⟨0, 0, 0, 0, 0, 2, f⟩) (by simp only [results, Try.results30, hdA]; go_simp) rfl ⟨rfl, gb_own7 G9.out HRW.out⟩
                · have hR := HJ.out.symm.trans (nums_big (r := 2) (fun h => absurd h.1 (by decide)) eg (by omega) ⟨by decide, h0⟩)
                  have hv2 : V = ⟨0, 0, 0, 0, 0, 3, f⟩ := by
                    rw [HVV.out, hR]
                    exact endV_fault (by show ¬ 3 = 0; decide)
                  have d6 : ((v : Int) == 0) = false := by rw [beq_eq_false_iff_ne]; omega
                  have d7 : decide ((16384 : Int) < v) = true := decide_eq_true (by omega)
                  subst hv2
                  clear eg hR HJ HVV
                  go_wp2_with fail
                  refine (KR.out _).mono ?_
                  rintro e w3 ⟨rfl, g3⟩
                  have HF4 := Lib.hid (HF3.out _ g3)
                  have HG4 := Lib.hid (HG3.out _ g3)
                  clear g3 KR HF3 HG3 HF2 HG2 HD2
                  simp only [gotA]
                  go_wp2_with fail
                  refine (rbad_calls 3 f _).mono ?_
                  rintro e w9 ⟨rfl, g9⟩
                  have F9 := HF4.out.grown g9 (by simp)
                  have rq0 := F9.c0
                  have rq1 := F9.c1
                  have rq2 := F9.c2
                  have rq3 := F9.c3
                  have rq4 := F9.c4
                  have rq5 := F9.c5
                  have rq6 := F9.c6
                  have rf0 := F9.free 0
                  have rf1 := F9.free 1
                  have rf2 := F9.free 2
                  have rf3 := F9.free 3
                  have rf4 := F9.free 4
                  have rf5 := F9.free 5
                  have rf6 := F9.free 6
                  have G9 := Lib.hid (gb_trans HG4.out g9)
                  clear F9 g9
                  go_wp2
                  refine bodyPost_ret (v := hdA ⟨0, 0, 0, 0, 0, 3, f⟩) (by simp only [results, Try.results30, hdA]; go_simp) rfl ⟨rfl, gb_own7 G9.out HRW.out⟩
                · have hR := (nums_on (r := 2) (fun h => absurd h.1 (by decide)) eg (by omega) (by omega)).symm.trans HJ.out
                  have HR2 := Lib.hid hR
                  have d6 : ((v : Int) == 0) = false := by rw [beq_eq_false_iff_ne]; omega
                  have d7 : decide ((16384 : Int) < v) = false := decide_eq_false (by omega)
                  have hlt := HD2.out.lt
                  clear eg hR HJ
                  go_wp2_with fail
                  refine (KR.out _).mono ?_
                  rintro e w3 ⟨rfl, g3⟩
                  have D3 := HD2.out.grown g3 (by simp)
                  have q1 := D3.c1
                  have f1 := D3.free 1
                  have hlt3 := D3.lt
                  have HD3 := Lib.hid D3
                  have HF4 := Lib.hid (HF2.out.grown g3 (by simp))
                  have HG4 := Lib.hid (gb_trans HG2.out g3)
                  clear g3 KR HF3 HG3 HF2 HG2 HD2 D3
                  simp only [gotA]
                  go_wp2
                  go_roundg 2
                  case measure => omega
                  case rel => exact ⟨1, j, v, h, m, _, by decide, hjs, rfl, by go_num, by go_num, HR2.out, (HD3.out.set1 v).al _, (HF4.out.oth hne').al _, gb_trans (gb_own1 HG4.out (by have := HRW.out; have := HHD.out; omega)) (World.grownBy_alloc _ _ none)⟩
            · have KR := fun u => rnumber_calls s a u hs ha
              rcases gotV_gd s a ha with ⟨kd, pl, eg, hk0, hk3, hpl, _⟩ | ⟨v, f, j, eg, hkf, hfj, hjs, hv, hNj⟩
              · simp only [eg] at KR
                have KR := Lib.hid KR
                have hR := HJ.out.symm.trans (nums_fault (r := 1) (fun h => absurd h.1 (by decide)) eg hk0)
                have hv2 : V = ⟨0, 0, 0, 0, 0, kd, pl⟩ := by
                  rw [HVV.out, hR]
                  exact endV_fault hk0
                have d5 : ((kd : Int) == 0) = false := by rw [beq_eq_false_iff_ne]; omega
                have d5' : ((kd : Int) != 0) = true := by rw [bne_iff_ne]; omega
                subst hv2
                clear eg hR HJ HVV
                go_wp2_with fail
                refine (KR.out _).mono ?_
                rintro e w3 ⟨rfl, g3⟩
                have HF3 := Lib.hid ((HF2.out.grown g3 (by simp)).al (.cells #[.int .i64 0, .int .i64 0, .int .i64 0, .int .i64 kd, .int .i64 pl] 30))
                have HG3 := Lib.hid (gb_trans (gb_trans HG2.out g3) (World.grownBy_alloc w3 (.cells #[.int .i64 0, .int .i64 0, .int .i64 0, .int .i64 kd, .int .i64 pl] 30) none))
                clear g3 KR HF2 HG2 HD2
                simp only [gotA]
                go_wp2_with fail
                refine (rbad_calls kd pl _).mono ?_
                rintro e w9 ⟨rfl, g9⟩
                have F9 := HF3.out.grown g9 (by simp)
                have rq0 := F9.c0
                have rq1 := F9.c1
                have rq2 := F9.c2
                have rq3 := F9.c3
                have rq4 := F9.c4
                have rq5 := F9.c5
                have rq6 := F9.c6
                have rf0 := F9.free 0
                have rf1 := F9.free 1
                have rf2 := F9.free 2
                have rf3 := F9.free 3
                have rf4 := F9.free 4
                have rf5 := F9.free 5
                have rf6 := F9.free 6
                have G9 := Lib.hid (gb_trans HG3.out g9)
                clear F9 g9
                go_wp2
                refine bodyPost_ret (v := hdA ⟨0, 0, 0, 0, 0, kd, pl⟩) (by simp only [results, Try.results30, hdA]; go_simp) rfl ⟨rfl, gb_own7 G9.out HRW.out⟩
              · simp only [eg] at KR
                have KR := Lib.hid KR
                have hG3 := fun (u : World) (g : wr.grownBy u none) => gb_trans (gb_trans HG2.out g) (World.grownBy_alloc u (.cells #[.int .i64 v, .int .i64 f, .int .i64 j, .int .i64 0, .int .i64 0] 30) none)
                have hF3 := fun (u : World) (g : wr.grownBy u none) => (HF2.out.grown g (by simp)).al (.cells #[.int .i64 v, .int .i64 f, .int .i64 j, .int .i64 0, .int .i64 0] 30)
                have HG3 := Lib.hid hG3
                have HF3 := Lib.hid hF3
                clear hG3 hF3
                rcases (show v = 0 ∨ 16384 < v ∨ (v ≠ 0 ∧ v ≤ 16384) from by omega) with h0 | h0 | ⟨h0, h1⟩
                · have hR := HJ.out.symm.trans (nums_bad (r := 1) (fun h => absurd h.1 (by decide)) eg (.inl h0))
                  have hv2 : V = ⟨0, 0, 0, 0, 0, 2, f⟩ := by
                    rw [HVV.out, hR]
                    exact endV_fault (by show ¬ 2 = 0; decide)
                  have d6 : ((v : Int) == 0) = true := by rw [beq_iff_eq]; omega
                  clear h0
                  subst hv2
                  clear eg hR HJ HVV
                  go_wp2_with fail
                  refine (KR.out _).mono ?_
                  rintro e w3 ⟨rfl, g3⟩
                  have HF4 := Lib.hid (HF3.out _ g3)
                  have HG4 := Lib.hid (HG3.out _ g3)
                  clear g3 KR HF3 HG3 HF2 HG2 HD2
                  simp only [gotA]
                  go_wp2_with fail
                  refine (rbad_calls 2 f _).mono ?_
                  rintro e w9 ⟨rfl, g9⟩
                  have F9 := HF4.out.grown g9 (by simp)
                  have rq0 := F9.c0
                  have rq1 := F9.c1
                  have rq2 := F9.c2
                  have rq3 := F9.c3
                  have rq4 := F9.c4
                  have rq5 := F9.c5
                  have rq6 := F9.c6
                  have rf0 := F9.free 0
                  have rf1 := F9.free 1
                  have rf2 := F9.free 2
                  have rf3 := F9.free 3
                  have rf4 := F9.free 4
                  have rf5 := F9.free 5
                  have rf6 := F9.free 6
                  have G9 := Lib.hid (gb_trans HG4.out g9)
                  clear F9 g9
                  go_wp2
                  refine bodyPost_ret (v := hdA ⟨0, 0, 0, 0, 0, 2, f⟩) (by simp only [results, Try.results30, hdA]; go_simp) rfl ⟨rfl, gb_own7 G9.out HRW.out⟩
                · have hR := HJ.out.symm.trans (nums_big (r := 1) (fun h => absurd h.1 (by decide)) eg (by omega) ⟨by decide, h0⟩)
                  have hv2 : V = ⟨0, 0, 0, 0, 0, 3, f⟩ := by
                    rw [HVV.out, hR]
                    exact endV_fault (by show ¬ 3 = 0; decide)
                  have d6 : ((v : Int) == 0) = false := by rw [beq_eq_false_iff_ne]; omega
                  have d7 : decide ((16384 : Int) < v) = true := decide_eq_true (by omega)
                  subst hv2
                  clear eg hR HJ HVV
                  go_wp2_with fail
                  refine (KR.out _).mono ?_
                  rintro e w3 ⟨rfl, g3⟩
                  have HF4 := Lib.hid (HF3.out _ g3)
                  have HG4 := Lib.hid (HG3.out _ g3)
                  clear g3 KR HF3 HG3 HF2 HG2 HD2
                  simp only [gotA]
                  go_wp2_with fail
                  refine (rbad_calls 3 f _).mono ?_
                  rintro e w9 ⟨rfl, g9⟩
                  have F9 := HF4.out.grown g9 (by simp)
                  have rq0 := F9.c0
                  have rq1 := F9.c1
                  have rq2 := F9.c2
                  have rq3 := F9.c3
                  have rq4 := F9.c4
                  have rq5 := F9.c5
                  have rq6 := F9.c6
                  have rf0 := F9.free 0
                  have rf1 := F9.free 1
                  have rf2 := F9.free 2
                  have rf3 := F9.free 3
                  have rf4 := F9.free 4
                  have rf5 := F9.free 5
                  have rf6 := F9.free 6
                  have G9 := Lib.hid (gb_trans HG4.out g9)
                  clear F9 g9
                  go_wp2
                  refine bodyPost_ret (v := hdA ⟨0, 0, 0, 0, 0, 3, f⟩) (by simp only [results, Try.results30, hdA]; go_simp) rfl ⟨rfl, gb_own7 G9.out HRW.out⟩
                · have hR := (nums_on (r := 1) (fun h => absurd h.1 (by decide)) eg (by omega) (by omega)).symm.trans HJ.out
                  have HR2 := Lib.hid hR
                  have d6 : ((v : Int) == 0) = false := by rw [beq_eq_false_iff_ne]; omega
                  have d7 : decide ((16384 : Int) < v) = false := decide_eq_false (by omega)
                  have hlt := HD2.out.lt
                  clear eg hR HJ
                  go_wp2_with fail
                  refine (KR.out _).mono ?_
                  rintro e w3 ⟨rfl, g3⟩
                  have D3 := HD2.out.grown g3 (by simp)
                  have q2 := D3.c2
                  have f2 := D3.free 2
                  have hlt3 := D3.lt
                  have HD3 := Lib.hid D3
                  have HF4 := Lib.hid (HF2.out.grown g3 (by simp))
                  have HG4 := Lib.hid (gb_trans HG2.out g3)
                  clear g3 KR HF3 HG3 HF2 HG2 HD2 D3
                  simp only [gotA]
                  go_wp2
                  go_roundg 1
                  case measure => omega
                  case rel => exact ⟨2, j, w, v, m, _, by decide, hjs, rfl, by go_num, by go_num, HR2.out, (HD3.out.set2 v).al _, (HF4.out.oth hne').al _, gb_trans (gb_own1 HG4.out (by have := HRW.out; have := HHD.out; omega)) (World.grownBy_alloc _ _ none)⟩
            · by_cases hbit : k = 1 ∨ k = 4
              · have hR := HJ.out
                rw [nums_bit hbit] at hR
                have HR2 := Lib.hid hR
                have dk : (((k : Int) == 1) = true) ∨ (((k : Int) == 1) = false ∧ ((k : Int) == 4) = true) := by
                  rcases hbit with h | h
                  · exact .inl (by rw [beq_iff_eq]; omega)
                  · exact .inr ⟨by rw [beq_eq_false_iff_ne]; omega, by rw [beq_iff_eq]; omega⟩
                clear hR HJ hbit
                rcases dk with dk | ⟨dk, dk'⟩
                all_goals
                  go_wp2
                  go_roundg 0
                  case measure => omega
                  case rel => exact ⟨3, a, w, h, m, n, by decide, ha, rfl, by go_num, by go_num, HR2.out, HD2.out, HF2.out, HG2.out⟩
              · have dk : ((k : Int) == 1) = false := by rw [beq_eq_false_iff_ne]; omega
                have dk' : ((k : Int) == 4) = false := by rw [beq_eq_false_iff_ne]; omega
                have KR := fun u => rnumber_calls s a u hs ha
                rcases gotV_gd s a ha with ⟨kd, pl, eg, hk0, hk3, hpl, _⟩ | ⟨v, f, j, eg, hkf, hfj, hjs, hv, hNj⟩
                · simp only [eg] at KR
                  have KR := Lib.hid KR
                  have hR := HJ.out.symm.trans (nums_fault (r := 0) (fun h => hbit h.2) eg hk0)
                  have hv2 : V = ⟨0, 0, 0, 0, 0, kd, pl⟩ := by
                    rw [HVV.out, hR]
                    exact endV_fault hk0
                  have d5 : ((kd : Int) == 0) = false := by rw [beq_eq_false_iff_ne]; omega
                  have d5' : ((kd : Int) != 0) = true := by rw [bne_iff_ne]; omega
                  subst hv2
                  clear eg hR HJ HVV
                  go_wp2_with fail
                  refine (KR.out _).mono ?_
                  rintro e w3 ⟨rfl, g3⟩
                  have HF3 := Lib.hid ((HF2.out.grown g3 (by simp)).al (.cells #[.int .i64 0, .int .i64 0, .int .i64 0, .int .i64 kd, .int .i64 pl] 30))
                  have HG3 := Lib.hid (gb_trans (gb_trans HG2.out g3) (World.grownBy_alloc w3 (.cells #[.int .i64 0, .int .i64 0, .int .i64 0, .int .i64 kd, .int .i64 pl] 30) none))
                  clear g3 KR HF2 HG2 HD2
                  simp only [gotA]
                  go_wp2_with fail
                  refine (rbad_calls kd pl _).mono ?_
                  rintro e w9 ⟨rfl, g9⟩
                  have F9 := HF3.out.grown g9 (by simp)
                  have rq0 := F9.c0
                  have rq1 := F9.c1
                  have rq2 := F9.c2
                  have rq3 := F9.c3
                  have rq4 := F9.c4
                  have rq5 := F9.c5
                  have rq6 := F9.c6
                  have rf0 := F9.free 0
                  have rf1 := F9.free 1
                  have rf2 := F9.free 2
                  have rf3 := F9.free 3
                  have rf4 := F9.free 4
                  have rf5 := F9.free 5
                  have rf6 := F9.free 6
                  have G9 := Lib.hid (gb_trans HG3.out g9)
                  clear F9 g9
                  go_wp2
                  refine bodyPost_ret (v := hdA ⟨0, 0, 0, 0, 0, kd, pl⟩) (by simp only [results, Try.results30, hdA]; go_simp) rfl ⟨rfl, gb_own7 G9.out HRW.out⟩
                · simp only [eg] at KR
                  have KR := Lib.hid KR
                  have hG3 := fun (u : World) (g : wr.grownBy u none) => gb_trans (gb_trans HG2.out g) (World.grownBy_alloc u (.cells #[.int .i64 v, .int .i64 f, .int .i64 j, .int .i64 0, .int .i64 0] 30) none)
                  have hF3 := fun (u : World) (g : wr.grownBy u none) => (HF2.out.grown g (by simp)).al (.cells #[.int .i64 v, .int .i64 f, .int .i64 j, .int .i64 0, .int .i64 0] 30)
                  have HG3 := Lib.hid hG3
                  have HF3 := Lib.hid hF3
                  clear hG3 hF3
                  rcases (show v = 0 ∨ 65535 < v ∨ (v ≠ 0 ∧ v ≤ 65535) from by omega) with h0 | h0 | ⟨h0, h1⟩
                  · have hR := HJ.out.symm.trans (nums_bad (r := 0) (fun h => hbit h.2) eg (.inl h0))
                    have hv2 : V = ⟨0, 0, 0, 0, 0, 2, f⟩ := by
                      rw [HVV.out, hR]
                      exact endV_fault (by show ¬ 2 = 0; decide)
                    have d6 : ((v : Int) == 0) = true := by rw [beq_iff_eq]; omega
                    clear h0
                    subst hv2
                    clear eg hR HJ HVV
                    go_wp2_with fail
                    refine (KR.out _).mono ?_
                    rintro e w3 ⟨rfl, g3⟩
                    have HF4 := Lib.hid (HF3.out _ g3)
                    have HG4 := Lib.hid (HG3.out _ g3)
                    clear g3 KR HF3 HG3 HF2 HG2 HD2
                    simp only [gotA]
                    go_wp2_with fail
                    refine (rbad_calls 2 f _).mono ?_
                    rintro e w9 ⟨rfl, g9⟩
                    have F9 := HF4.out.grown g9 (by simp)
                    have rq0 := F9.c0
                    have rq1 := F9.c1
                    have rq2 := F9.c2
                    have rq3 := F9.c3
                    have rq4 := F9.c4
                    have rq5 := F9.c5
                    have rq6 := F9.c6
                    have rf0 := F9.free 0
                    have rf1 := F9.free 1
                    have rf2 := F9.free 2
                    have rf3 := F9.free 3
                    have rf4 := F9.free 4
                    have rf5 := F9.free 5
                    have rf6 := F9.free 6
                    have G9 := Lib.hid (gb_trans HG4.out g9)
                    clear F9 g9
                    go_wp2
                    refine bodyPost_ret (v := hdA ⟨0, 0, 0, 0, 0, 2, f⟩) (by simp only [results, Try.results30, hdA]; go_simp) rfl ⟨rfl, gb_own7 G9.out HRW.out⟩
                  · have hR := HJ.out.symm.trans (nums_bad (r := 0) (fun h => hbit h.2) eg (.inr ⟨rfl, h0⟩))
                    have hv2 : V = ⟨0, 0, 0, 0, 0, 2, f⟩ := by
                      rw [HVV.out, hR]
                      exact endV_fault (by show ¬ 2 = 0; decide)
                    have d6 : ((v : Int) == 0) = false := by rw [beq_eq_false_iff_ne]; omega
                    have d7 : decide ((65535 : Int) < v) = true := decide_eq_true (by omega)
                    subst hv2
                    clear eg hR HJ HVV
                    go_wp2_with fail
                    refine (KR.out _).mono ?_
                    rintro e w3 ⟨rfl, g3⟩
                    have HF4 := Lib.hid (HF3.out _ g3)
                    have HG4 := Lib.hid (HG3.out _ g3)
                    clear g3 KR HF3 HG3 HF2 HG2 HD2
                    simp only [gotA]
                    go_wp2_with fail
                    refine (rbad_calls 2 f _).mono ?_
                    rintro e w9 ⟨rfl, g9⟩
                    have F9 := HF4.out.grown g9 (by simp)
                    have rq0 := F9.c0
                    have rq1 := F9.c1
                    have rq2 := F9.c2
                    have rq3 := F9.c3
                    have rq4 := F9.c4
                    have rq5 := F9.c5
                    have rq6 := F9.c6
                    have rf0 := F9.free 0
                    have rf1 := F9.free 1
                    have rf2 := F9.free 2
                    have rf3 := F9.free 3
                    have rf4 := F9.free 4
                    have rf5 := F9.free 5
                    have rf6 := F9.free 6
                    have G9 := Lib.hid (gb_trans HG4.out g9)
                    clear F9 g9
                    go_wp2
                    refine bodyPost_ret (v := hdA ⟨0, 0, 0, 0, 0, 2, f⟩) (by simp only [results, Try.results30, hdA]; go_simp) rfl ⟨rfl, gb_own7 G9.out HRW.out⟩
                  · have hR := (nums_on (r := 0) (fun h => hbit h.2) eg (by omega) (by omega)).symm.trans HJ.out
                    have HR2 := Lib.hid hR
                    have d6 : ((v : Int) == 0) = false := by rw [beq_eq_false_iff_ne]; omega
                    have d7 : decide ((65535 : Int) < v) = false := decide_eq_false (by omega)
                    have hlt := HD2.out.lt
                    clear eg hR HJ
                    go_wp2_with fail
                    refine (KR.out _).mono ?_
                    rintro e w3 ⟨rfl, g3⟩
                    have D3 := HD2.out.grown g3 (by simp)
                    have q3 := D3.c3
                    have f3 := D3.free 3
                    have hlt3 := D3.lt
                    have HD3 := Lib.hid D3
                    have HF4 := Lib.hid (HF2.out.grown g3 (by simp))
                    have HG4 := Lib.hid (gb_trans HG2.out g3)
                    clear g3 KR HF3 HG3 HF2 HG2 HD2 D3
                    simp only [gotA]
                    go_wp2
                    go_roundg 0
                    case measure => omega
                    case rel => exact ⟨3, j, w, h, v, _, by decide, hjs, rfl, by go_num, by go_num, HR2.out, (HD3.out.set3 v).al _, (HF4.out.oth hne').al _, gb_trans (gb_own1 HG4.out (by have := HRW.out; have := HHD.out; omega)) (World.grownBy_alloc _ _ none)⟩
            · have hR : R = ⟨0, 0, a, w, h, m, n⟩ := HJ.out.symm
              subst hR
              clear HJ
              by_cases h4 : 4 ≤ k
              · have d5 : decide ((4 : Int) ≤ k) = true := decide_eq_true (by omega)
                by_cases h5 : s.size ≤ a
                · have d6 : decide ((s.size : Int) ≤ a) = true := decide_eq_true (by omega)
                  have hv2 := HVV.out.trans (endV_short rfl h4 h5)
                  subst hv2
                  clear HVV HD2
                  go_wp2_with fail
                  refine (rbad_calls 1 s.size _).mono ?_
                  rintro e w9 ⟨rfl, g9⟩
                  have F9 := HF2.out.grown g9 (by simp)
                  have rq0 := F9.c0
                  have rq1 := F9.c1
                  have rq2 := F9.c2
                  have rq3 := F9.c3
                  have rq4 := F9.c4
                  have rq5 := F9.c5
                  have rq6 := F9.c6
                  have rf0 := F9.free 0
                  have rf1 := F9.free 1
                  have rf2 := F9.free 2
                  have rf3 := F9.free 3
                  have rf4 := F9.free 4
                  have rf5 := F9.free 5
                  have rf6 := F9.free 6
                  have G9 := Lib.hid (gb_trans HG2.out g9)
                  clear F9 g9
                  go_wp2
                  refine bodyPost_ret (v := hdA ⟨0, 0, 0, 0, 0, 1, s.size⟩) (by simp only [results, Try.results30, hdA]; go_simp) rfl ⟨rfl, gb_own7 G9.out HRW.out⟩
                · have d6 : decide ((s.size : Int) ≤ a) = false := decide_eq_false (by omega)
                  have has : a < s.size := by omega
                  obtain ⟨x, hx⟩ : ∃ x, bt s a = x := ⟨_, rfl⟩
                  have hcx := bt_cell s a has hx
                  have x256 : x < 256 := by rw [← hx]; exact bt_lt s a
                  have KB := fun u => rblank_calls x x256 u
                  cases eB : blankB x
                  · have hv2 := HVV.out.trans (endV_bad rfl h4 has (by show blankB (bt s a) = false; rw [hx]; exact eB))
                    simp only [eB] at KB
                    have KB := Lib.hid KB
                    subst hv2
                    clear HVV HD2 eB hx
                    go_wp2_with fail
                    refine (KB.out _).mono ?_
                    rintro e w' ⟨rfl, rfl⟩
                    go_wp2_with fail
                    refine (rbad_calls 2 a _).mono ?_
                    rintro e w9 ⟨rfl, g9⟩
                    have F9 := HF2.out.grown g9 (by simp)
                    have rq0 := F9.c0
                    have rq1 := F9.c1
                    have rq2 := F9.c2
                    have rq3 := F9.c3
                    have rq4 := F9.c4
                    have rq5 := F9.c5
                    have rq6 := F9.c6
                    have rf0 := F9.free 0
                    have rf1 := F9.free 1
                    have rf2 := F9.free 2
                    have rf3 := F9.free 3
                    have rf4 := F9.free 4
                    have rf5 := F9.free 5
                    have rf6 := F9.free 6
                    have G9 := Lib.hid (gb_trans HG2.out g9)
                    clear F9 g9
                    go_wp2
                    refine bodyPost_ret (v := hdA ⟨0, 0, 0, 0, 0, 2, a⟩) (by simp only [results, Try.results30, hdA]; go_simp) rfl ⟨rfl, gb_own7 G9.out HRW.out⟩
                  · have hv2 := HVV.out.trans (endV_yes rfl h4 has (by show blankB (bt s a) = true; rw [hx]; exact eB))
                    simp only [eB] at KB
                    have KB := Lib.hid KB
                    subst hv2
                    clear HVV eB hx
                    go_wp2_with fail
                    refine (KB.out _).mono ?_
                    rintro e w' ⟨rfl, rfl⟩
                    have F9 := HF2.out
                    have rq0 := F9.c0
                    have rq1 := F9.c1
                    have rq2 := F9.c2
                    have rq3 := F9.c3
                    have rq4 := F9.c4
                    have rq5 := F9.c5
                    have rq6 := F9.c6
                    have rf0 := F9.free 0
                    have rf1 := F9.free 1
                    have rf2 := F9.free 2
                    have rf3 := F9.free 3
                    have rf4 := F9.free 4
                    have rf5 := F9.free 5
                    have rf6 := F9.free 6
                    have D9 := HD2.out
                    have hq0 := D9.c0
                    have hq1 := D9.c1
                    have hq2 := D9.c2
                    have hq3 := D9.c3
                    have hq4 := D9.c4
                    have hq5 := D9.c5
                    have hq6 := D9.c6
                    have hf0 := D9.free 0
                    have hf1 := D9.free 1
                    have hf2 := D9.free 2
                    have hf3 := D9.free 3
                    have hf4 := D9.free 4
                    have hf5 := D9.free 5
                    have hf6 := D9.free 6
                    clear F9 D9
                    go_wp2
                    refine bodyPost_ret (v := hdA ⟨k, w, h, m, a + 1, 0, 0⟩) (by simp only [results, Try.results30, hdA]; go_simp) rfl ⟨rfl, gb_own7 (gb_own1 HG2.out (by have := HRW.out; have := HHD.out; omega)) HRW.out⟩
              · have d5 : decide ((4 : Int) ≤ k) = false := decide_eq_false (by omega)
                have hv2 := HVV.out.trans (endV_text rfl h4)
                subst hv2
                clear HVV
                have F9 := HF2.out
                have rq0 := F9.c0
                have rq1 := F9.c1
                have rq2 := F9.c2
                have rq3 := F9.c3
                have rq4 := F9.c4
                have rq5 := F9.c5
                have rq6 := F9.c6
                have rf0 := F9.free 0
                have rf1 := F9.free 1
                have rf2 := F9.free 2
                have rf3 := F9.free 3
                have rf4 := F9.free 4
                have rf5 := F9.free 5
                have rf6 := F9.free 6
                have D9 := HD2.out
                have hq0 := D9.c0
                have hq1 := D9.c1
                have hq2 := D9.c2
                have hq3 := D9.c3
                have hq4 := D9.c4
                have hq5 := D9.c5
                have hq6 := D9.c6
                have hf0 := D9.free 0
                have hf1 := D9.free 1
                have hf2 := D9.free 2
                have hf3 := D9.free 3
                have hf4 := D9.free 4
                have hf5 := D9.free 5
                have hf6 := D9.free 6
                clear F9 D9
                go_wp2
                refine bodyPost_ret (v := hdA ⟨k, w, h, m, a, 0, 0⟩) (by simp only [results, Try.results30, hdA]; go_simp) rfl ⟨rfl, gb_own7 (gb_own1 HG2.out (by have := HRW.out; have := HHD.out; omega)) HRW.out⟩
        · have hv := HV.out.trans (readV_3 (by omega) (hx.trans h1) (by rw [hy]; exact h3))
          subst hv
          rcases (show (y : Int) - 48 < 1 ∨ (¬ (y : Int) - 48 < 1 ∧ 6 < (y : Int) - 48) from by omega) with h4 | ⟨h4, h5⟩
          · have d3 : decide ((y : Int) - 48 < 1) = true := decide_eq_true h4
            clear HV h0 h1 h2 hx hy h3
            go_enter Try.func30, Try.ntmps30
            go_wp2_with fail
            generalize W.alloc (.cells #[.int .i64 0, .int .i64 0, .int .i64 0, .int .i64 0, .int .i64 0, .int .i64 0, .int .i64 0] 54) = w0 at HF0 HG0 HZ0 ⊢
            refine (rbad_calls 2 1 _).mono ?_
            rintro e w9 ⟨rfl, g9⟩
            have F9 := HF0.out.grown g9 (by simp)
            have rq0 := F9.c0
            have rq1 := F9.c1
            have rq2 := F9.c2
            have rq3 := F9.c3
            have rq4 := F9.c4
            have rq5 := F9.c5
            have rq6 := F9.c6
            have rf0 := F9.free 0
            have rf1 := F9.free 1
            have rf2 := F9.free 2
            have rf3 := F9.free 3
            have rf4 := F9.free 4
            have rf5 := F9.free 5
            have rf6 := F9.free 6
            have G9 := Lib.hid (gb_trans HG0.out g9)
            clear F9 g9
            go_wp2
            refine bodyPost_ret (v := hdA ⟨0, 0, 0, 0, 0, 2, 1⟩) (by simp only [results, Try.results30, hdA]; go_simp) rfl ⟨rfl, gb_own7 G9.out HRW.out⟩
          · have d3 : decide ((y : Int) - 48 < 1) = false := decide_eq_false h4
            have d4 : decide (6 < (y : Int) - 48) = true := decide_eq_true h5
            clear HV h0 h1 h2 hx hy h3
            go_enter Try.func30, Try.ntmps30
            go_wp2_with fail
            generalize W.alloc (.cells #[.int .i64 0, .int .i64 0, .int .i64 0, .int .i64 0, .int .i64 0, .int .i64 0, .int .i64 0] 54) = w0 at HF0 HG0 HZ0 ⊢
            refine (rbad_calls 2 1 _).mono ?_
            rintro e w9 ⟨rfl, g9⟩
            have F9 := HF0.out.grown g9 (by simp)
            have rq0 := F9.c0
            have rq1 := F9.c1
            have rq2 := F9.c2
            have rq3 := F9.c3
            have rq4 := F9.c4
            have rq5 := F9.c5
            have rq6 := F9.c6
            have rf0 := F9.free 0
            have rf1 := F9.free 1
            have rf2 := F9.free 2
            have rf3 := F9.free 3
            have rf4 := F9.free 4
            have rf5 := F9.free 5
            have rf6 := F9.free 6
            have G9 := Lib.hid (gb_trans HG0.out g9)
            clear F9 g9
            go_wp2
            refine bodyPost_ret (v := hdA ⟨0, 0, 0, 0, 0, 2, 1⟩) (by simp only [results, Try.results30, hdA]; go_simp) rfl ⟨rfl, gb_own7 G9.out HRW.out⟩
    · have e1 : ((x : Int) == 80) = false := by rw [beq_eq_false_iff_ne]; omega
      have e1' : ((x : Int) != 80) = true := by rw [bne_iff_ne]; omega
      have hv := HV.out.trans (readV_1 h0 (by rw [hx]; exact h1))
      subst hv
      clear HV h0 h1 hx
      go_enter Try.func30, Try.ntmps30
      go_wp2_with fail
      generalize W.alloc (.cells #[.int .i64 0, .int .i64 0, .int .i64 0, .int .i64 0, .int .i64 0, .int .i64 0, .int .i64 0] 54) = w0 at HF0 HG0 HZ0 ⊢
      refine (rbad_calls 2 0 _).mono ?_
      rintro e w9 ⟨rfl, g9⟩
      have F9 := HF0.out.grown g9 (by simp)
      have rq0 := F9.c0
      have rq1 := F9.c1
      have rq2 := F9.c2
      have rq3 := F9.c3
      have rq4 := F9.c4
      have rq5 := F9.c5
      have rq6 := F9.c6
      have rf0 := F9.free 0
      have rf1 := F9.free 1
      have rf2 := F9.free 2
      have rf3 := F9.free 3
      have rf4 := F9.free 4
      have rf5 := F9.free 5
      have rf6 := F9.free 6
      have G9 := Lib.hid (gb_trans HG0.out g9)
      clear F9 g9
      go_wp2
      refine bodyPost_ret (v := hdA ⟨0, 0, 0, 0, 0, 2, 0⟩) (by simp only [results, Try.results30, hdA]; go_simp) rfl ⟨rfl, gb_own7 G9.out HRW.out⟩

end Go.Proofs.Ytckkkdiekamiaaa.Ph
