/- Texts of one kind, one behind the other: QoR. -/
import Derived.BigRegion
import Derived.Test.YtmhghkgcfgacdaaGreatG09
import Derived.Test.YtmhghkgcfgacdaaGreatG33
/- Layer 15's Run with qoi.Decode, by any budget (written by wip/gen/run13.py). -/
namespace Go.Proofs.YtmhghkgcfgacdaaGreat.Qo
open Go.ChangeShapes Go.WideShapes Go.ChangeAt Go.RowKit
open Go.Proofs.YtmhghkgcfgacdaaGreat.Le Go.Proofs.YtmhghkgcfgacdaaGreat.Tk Go.Proofs.YtmhghkgcfgacdaaGreat.Sr Go.Proofs.YtmhghkgcfgacdaaGreat.Sh Go.Proofs.YtmhghkgcfgacdaaGreat.Qw
open Go.Proofs.YtmhghkgcfgacdaaGreat.Ra hiding bt
set_option linter.unusedVariables false

def img0 : Value := .agg #[.int .i64 0, .int .i64 0, .slice none 0 0]
theorem Fl.alH {r : Nat} {k f a : Int} {w : World} (h : Fl r k f a w) (o : Obj) : Fl r k f a (w.alloc o) := blk_al h o
theorem gb_own3 {a b : World} {k : Nat} {v0 v1 v2 : Value} (h : a.grownBy b none) (hk : a.heap.size ≤ k) : a.grownBy (((b.setCell ⟨k, 0, none⟩ v0).setCell ⟨k, 1, none⟩ v1).setCell ⟨k, 2, none⟩ v2) none :=
  gb_own (gb_own (gb_own h hk (gb_set _ _ _ _)) hk (gb_set _ _ _ _)) hk (gb_set _ _ _ _)

/-- The results' blocks of a reading: an image, a fault. -/
structure RB (W w : World) : Prop where
  im : w.heap[W.heap.size]? = some (.cells #[.int .i64 0, .int .i64 0, .slice none 0 0] 27 (0, 0))
  fl : Fl (W.heap.size + 1) 0 0 0 w
  g : W.grownBy w none
theorem RB.new (W : World) : RB W ((W.alloc (.cells #[.int .i64 0, .int .i64 0, .slice none 0 0] 27)).alloc (.cells #[.int .i64 0, .int .i64 0, .int .i64 0] 29)) := by
  refine ⟨blk_al blk_at _, ?_, gb_trans (World.grownBy_alloc _ _ _) (World.grownBy_alloc _ _ _)⟩
  rw [← size_alloc W (.cells #[.int .i64 0, .int .i64 0, .slice none 0 0] 27)]
  exact Fl.new _
section
variable {W w w' : World}
theorem RB.turned {S : List Nat} (h : RB W w) (t : Tn w w' S) (hS : ∀ k, k ∈ S → W.heap.size + 1 < k) : RB W w' := by
  refine ⟨(t.block _ (blk_lt h.im) (fun hk => ?_)).trans h.im, h.fl.turned t (fun hk => ?_), Tn.own h.g t (fun k hk => .inl (by have := hS k hk; omega))⟩
  · have := hS _ hk
    omega
  · have := hS _ hk
    omega
theorem RB.gb (h : RB W w) (g : w.grownBy w' none) : RB W w' := h.turned (Tn.gb g (S := []) (by simp)) (by simp)
theorem RB.lt (h : RB W w) : W.heap.size + 1 < w.heap.size := h.fl.lt
theorem RB.i0 (h : RB W w) : w.cell? ⟨W.heap.size, 0, none⟩ = some (.int .i64 0) := blk_cell h.im 0
theorem RB.i1 (h : RB W w) : w.cell? ⟨W.heap.size, 1, none⟩ = some (.int .i64 0) := blk_cell h.im 1
theorem RB.i2 (h : RB W w) : w.cell? ⟨W.heap.size, 2, none⟩ = some (.slice none 0 0) := blk_cell h.im 2
theorem RB.ifr (h : RB W w) (o : Nat) : w.frozen? ⟨W.heap.size, o, none⟩ = false := blk_free h.im o
/-- Both are laid. -/
theorem RB.end {v0 v1 v2 u0 u1 u2 : Value} (h : RB W w) : W.grownBy ((((((w.setCell ⟨W.heap.size, 0, none⟩ v0).setCell ⟨W.heap.size, 1, none⟩ v1).setCell ⟨W.heap.size, 2, none⟩ v2).setCell ⟨W.heap.size + 1, 0, none⟩ u0).setCell ⟨W.heap.size + 1, 1, none⟩ u1).setCell ⟨W.heap.size + 1, 2, none⟩ u2) none :=
  gb_own3 (gb_own3 h.g (Nat.le_refl _)) (Nat.le_succ _)
theorem RB.tn {v0 v1 v2 u0 u1 u2 : Value} (w : World) : Tn w ((((((w.setCell ⟨W.heap.size, 0, none⟩ v0).setCell ⟨W.heap.size, 1, none⟩ v1).setCell ⟨W.heap.size, 2, none⟩ v2).setCell ⟨W.heap.size + 1, 0, none⟩ u0).setCell ⟨W.heap.size + 1, 1, none⟩ u1).setCell ⟨W.heap.size + 1, 2, none⟩ u2) [W.heap.size, W.heap.size + 1] :=
  ((((((Tn.refl w _).st (by simp)).st (by simp)).st (by simp)).st (by simp)).st (by simp)).st (by simp)
end

/-- What comes of a decoding: the image, the fault, the ledger behind it. -/
def RnC (W : World) (s : ByteArray) (x : St) (v : TV) (img fault : Value) (l : Nat) (w' : World) : Prop :=
  ∃ y : St, Led l y.ls w' ∧ y.Ok ∧ Lm x y ∧ W.grownBy w' none ∧
    ((v.f = 0 ∧ (∃ g, img = .agg #[.int .i64 v.w, .int .i64 v.h, .slice (some ⟨g, 0, none⟩) (4 * (v.w * v.h)) (4 * (v.w * v.h))] ∧ w'.heap[g]? = some (.cells (Bu.bys (v.A)) 5 (0, 0)) ∧ v.A.size = 4 * (v.w * v.h)) ∧ fault = okT ∧ y.by_ = ((4 * (v.w * v.h) : Nat) : Int) ∧ y.r = 0 ∧ (v.w : Int) ≤ x.w ∧ (v.h : Int) ≤ x.h) ∨
     (v.f ≠ 0 ∧ img = img0 ∧ fault = flF 5 v.f v.p ∧ y.r = 0 ∧ y.by_ = 0) ∨
     ((x.w < v.w ∨ x.h < v.h ∨ x.b < ((4 * (v.w * v.h) : Nat) : Int) ∨ x.s < v.N) ∧ img = img0 ∧ (∃ j : Nat, j ≤ s.size ∧ fault = flF 5 4 j) ∧ y.r ≠ 0 ∧ y.by_ = 0))

set_option maxRecDepth 100000 in
set_option maxHeartbeats 8000000 in
theorem run15_calls (s : ByteArray) (v : TV) (HD : TD s v) (b0 b1 b2 b3 : Int) (W : World) (hs : s.size ≤ 9223372036854775806) (h0 : b0 ≤ 9223372036854775807) (h1 : b1 ≤ 9223372036854775807) (h2 : b2 ≤ 9223372036854775807) (h3 : b3 ≤ 9223372036854775807) :
    Calls Tryz.prog 7 #[.string s, .agg #[.int .i64 b0, .int .i64 b1, .int .i64 b2, .int .i64 b3], .func (.func 9) #[] #[]] W
      (fun e w' => ∃ img fault l, e = .returned (.tuple #[img, fault, .pointer (some ⟨l, 0, none⟩)]) ∧ RnC W s (St.new b0 b1 b2 b3) v img fault l w') := by
  have KN := Lib.hid (fun u => new_calls b0 b1 b2 b3 u)
  have KS := Lib.hid (fun l u => snew_calls l s u (by omega))
  have KD := Lib.hid (fun c l x u (R : Rd c l s 0 x u) (hx : x.r = 0) => HD c l x u R hx)
  have hok : (St.new b0 b1 b2 b3).Ok := St.new_ok h0 h1 h2 h3
  obtain ⟨x0, hx0⟩ : ∃ x, St.new b0 b1 b2 b3 = x := ⟨_, rfl⟩
  have hx : x0.r = 0 ∧ x0.by_ = 0 ∧ x0.st = 0 := by rw [← hx0]; exact ⟨rfl, rfl, rfl⟩
  rw [hx0] at KN hok ⊢
  have HX := Lib.hid hx
  have HOK := Lib.hid hok
  obtain ⟨Q, hQ⟩ : ∃ Q : Ending → World → Prop, (fun e w' => ∃ img fault l, e = .returned (.tuple #[img, fault, .pointer (some ⟨l, 0, none⟩)]) ∧ RnC W s x0 v img fault l w') = Q := ⟨_, rfl⟩
  rw [hQ]
  have HQ := Lib.hid hQ
  have HRB0 := Lib.hid (RB.new (W.alloc (.cells #[.int .i64 b0, .int .i64 b1, .int .i64 b2, .int .i64 b3] 34)))
  have HGW := Lib.hid (World.grownBy_alloc W (.cells #[.int .i64 b0, .int .i64 b1, .int .i64 b2, .int .i64 b3] 34) none)
  clear hQ hs h0 h1 h2 h3 hx hx0 HD hok
  go_enter Tryz.func7, Tryz.ntmps7
  go_wp2_with fail
  have e1 : W.heap.size + 1 = (W.alloc (.cells #[.int .i64 b0, .int .i64 b1, .int .i64 b2, .int .i64 b3] 34)).heap.size := (size_alloc _ _).symm
  rw [e1]
  clear e1
  generalize W.alloc (.cells #[.int .i64 b0, .int .i64 b1, .int .i64 b2, .int .i64 b3] 34) = W1 at HRB0 HGW ⊢
  generalize (W1.alloc (.cells #[.int .i64 0, .int .i64 0, .slice none 0 0] 27)).alloc (.cells #[.int .i64 0, .int .i64 0, .int .i64 0] 29) = w0 at HRB0 ⊢
  refine (KN.out _).mono ?_
  rintro e w1 ⟨l, rfl, L1, g1, hl⟩
  have HRB1 := Lib.hid (HRB0.out.gb g1)
  have HL := Lib.hid (Nat.lt_of_lt_of_le HRB0.out.lt hl)
  have HL1 := Lib.hid L1
  have hlw1 := L1.lt
  clear L1 g1 hl
  go_wp2_with fail
  refine (KS.out l _).mono ?_
  rintro e w2 ⟨c, rfl, S2, g2, hc⟩
  have R2 : Rd c l s 0 x0 w2 := ⟨S2 hlw1, HL1.out.grown g2 (by simp), HOK.out⟩
  have HRB2 := Lib.hid (HRB1.out.gb g2)
  have HC := Lib.hid (Nat.lt_of_lt_of_le HRB1.out.lt hc)
  have HKD := Lib.hid (KD.out c l _ w2 R2 HX.out.1)
  have hb2 := HRB2.out.lt
  clear S2 g2 hc R2 HL1 hlw1 KD
  go_wp2_with fail
  refine HKD.out.mono ?_
  rintro e w3 ⟨q, y, R3, T3, lim, ⟨z0, ⟨r, cb, g, rfl, O3, hr2, hcb2, hg2⟩, hby, hy, hw, hh⟩ | ⟨z0, rfl, hy, hby⟩ | ⟨tight, ⟨j, hj, rfl⟩, hy, hby⟩⟩
  all_goals
    have RB3 := HRB2.out.turned T3 (by simp; have := HL.out; have := HC.out; omega)
    have HLIM := Lib.hid lim
    have HR3 := Lib.hid R3
    clear lim R3 HKD HRB2
  · have HO3 := Lib.hid O3
    have HRB3 := Lib.hid RB3
    have HF3 := Lib.hid (And.intro z0 (And.intro hby (And.intro hy (And.intro hw hh))))
    clear O3 RB3 z0 hby hy hw hh T3
    have F4 : Fl w3.heap.size 0 0 0 (w3.alloc (.cells #[.int .i64 0, .int .i64 0, .int .i64 0] 29)) := blk_at
    have HRB4 := Lib.hid (HRB3.out.gb (World.grownBy_alloc w3 (.cells #[.int .i64 0, .int .i64 0, .int .i64 0] 29) none))
    have HR4 := Lib.hid (HR3.out.grown (World.grownBy_alloc w3 (.cells #[.int .i64 0, .int .i64 0, .int .i64 0] 29) none))
    have hb3 := HRB3.out.lt
    have p0 := F4.c0
    have p1 := F4.c1
    have p2 := F4.c2
    have m0 : ¬ w3.heap.size = W1.heap.size := by omega
    have m1 : ¬ W1.heap.size = w3.heap.size := by omega
    have m2 : ¬ w3.heap.size = W1.heap.size + 1 := by omega
    have m3 : ¬ W1.heap.size + 1 = w3.heap.size := by omega
    unfold okT
    clear HRB3 HR3
    go_wp2_with fail
    have HO4 := Lib.hid (HO3.out.grown (World.grownBy_alloc w3 (.cells #[.int .i64 0, .int .i64 0, .int .i64 0] 29) none) (by simp) (by simp) (by simp))
    have HF4 := Lib.hid F4
    have hw4 : (w3.alloc (.cells #[.int .i64 0, .int .i64 0, .int .i64 0] 29)).heap.size = w3.heap.size + 1 := size_alloc _ _
    have hg3 := HO3.out.buf.glt
    have hc3 := HO3.out.buf.lt
    clear p0 p1 p2 F4 HO3
    generalize w3.alloc (.cells #[.int .i64 0, .int .i64 0, .int .i64 0] 29) = w4 at HRB4 HR4 HO4 HF4 hw4 ⊢
    have KI := image_yes r l cb g v.w v.h _ w4 HO4.out
    have hsz := HO4.out.sz
    have hcl := HO4.out.buf.bl
    rw [hsz] at KI
    have KI := Lib.hid KI
    clear hsz
    refine KI.out.mono ?_
    rintro e w8 ⟨rfl, b8, T8⟩
    have RB8 := HRB4.out.turned T8 (by simp; omega)
    have F8 := HF4.out.turned T8 (by simp; omega)
    have L8 := HR4.out.led.turned T8 (by simpa using hcl.symm)
    have b9 : (w8.alloc (.cells #[.int .i64 v.w, .int .i64 v.h, .slice (some ⟨g, 0, none⟩) (4 * (v.w * v.h)) (4 * (v.w * v.h))] 27)).heap[w8.heap.size]? = _ := blk_at
    have j0 := blk_cell b9 0
    have j1 := blk_cell b9 1
    have j2 := blk_cell b9 2
    simp only [List.getElem?_toArray, List.getElem?_cons_succ, List.getElem?_cons_zero] at j0 j1 j2
    have z8 := T8.size
    have RB9 := RB8.gb (World.grownBy_alloc w8 (.cells #[.int .i64 v.w, .int .i64 v.h, .slice (some ⟨g, 0, none⟩) (4 * (v.w * v.h)) (4 * (v.w * v.h))] 27) none)
    have F9 := Fl.alH F8 (.cells #[.int .i64 v.w, .int .i64 v.h, .slice (some ⟨g, 0, none⟩) (4 * (v.w * v.h)) (4 * (v.w * v.h))] 27)
    have i0 := RB9.i0
    have i1 := RB9.i1
    have i2 := RB9.i2
    have if0 := RB9.ifr 0
    have if1 := RB9.ifr 1
    have if2 := RB9.ifr 2
    have r0 := RB9.fl.c0
    have r1 := RB9.fl.c1
    have r2 := RB9.fl.c2
    have rf0 := RB9.fl.free 0
    have rf1 := RB9.fl.free 1
    have rf2 := RB9.fl.free 2
    have p0 := F9.c0
    have p1 := F9.c1
    have p2 := F9.c2
    have n0 : ¬ w8.heap.size = W1.heap.size := by have := RB8.lt; omega
    have n1 : ¬ W1.heap.size = w8.heap.size := by have := RB8.lt; omega
    have n2 : ¬ w8.heap.size = W1.heap.size + 1 := by have := RB8.lt; omega
    have n3 : ¬ W1.heap.size + 1 = w8.heap.size := by have := RB8.lt; omega
    have HRB9 := Lib.hid RB9
    have HB9 := Lib.hid (blk_al b8 (.cells #[.int .i64 v.w, .int .i64 v.h, .slice (some ⟨g, 0, none⟩) (4 * (v.w * v.h)) (4 * (v.w * v.h))] 27))
    have HL9 := Lib.hid (L8.grown (World.grownBy_alloc w8 (.cells #[.int .i64 v.w, .int .i64 v.h, .slice (some ⟨g, 0, none⟩) (4 * (v.w * v.h)) (4 * (v.w * v.h))] 27) none) (by simp))
    clear RB8 F8 L8 b9 RB9 F9 b8 T8 KI
    go_wp2_with fail
    generalize w8.alloc (.cells #[.int .i64 v.w, .int .i64 v.h, .slice (some ⟨g, 0, none⟩) (4 * (v.w * v.h)) (4 * (v.w * v.h))] 27) = w9 at j0 j1 j2 i0 i1 i2 if0 if1 if2 r0 r1 r2 rf0 rf1 rf2 p0 p1 p2 HRB9 HB9 HL9 ⊢
    go_region
    go_wp2
    refine bodyPost_ret (v := .tuple #[.agg #[.int .i64 v.w, .int .i64 v.h, .slice (some ⟨g, 0, none⟩) (4 * (v.w * v.h)) (4 * (v.w * v.h))], okT, .pointer (some ⟨l, 0, none⟩)]) (by simp only [results, Tryz.results7, okT]; go_simp) rfl ?_
    rw [← HQ.out]
    refine ⟨_, _, _, rfl, y, Led.drew (HL9.out.turned (RB.tn w9) (by have := HL.out; simp; omega)), HR4.out.ok, HLIM.out, gb_trans HGW.out (gb_trans HRB9.out.end (gb_drew _ _)), .inl ⟨HF3.out.1, ⟨g, rfl, ?_, HO4.out.sz⟩, rfl, ?_, HF3.out.2.2.1, HF3.out.2.2.2.1, HF3.out.2.2.2.2⟩⟩
    · exact ((RB.tn w9).block g (blk_lt HB9.out) (by simp; omega)).trans HB9.out
    · rw [HF3.out.2.1, HX.out.2.1, Int.zero_add]
  · have HRB3 := Lib.hid RB3
    have HF3 := Lib.hid (And.intro z0 (And.intro hy (hby.trans HX.out.2.1)))
    clear RB3 T3 z0 hy hby
    unfold flF
    have F4 : Fl w3.heap.size v.f 5 v.p (w3.alloc (.cells #[.int .i64 v.f, .int .i64 5, .int .i64 v.p] 29)) := blk_at
    have HRB4 := Lib.hid (HRB3.out.gb (World.grownBy_alloc w3 (.cells #[.int .i64 v.f, .int .i64 5, .int .i64 v.p] 29) none))
    have HR4 := Lib.hid (HR3.out.grown (World.grownBy_alloc w3 (.cells #[.int .i64 v.f, .int .i64 5, .int .i64 v.p] 29) none))
    have hb3 := HRB3.out.lt
    have p0 := F4.c0
    have p1 := F4.c1
    have p2 := F4.c2
    have m0 : ¬ w3.heap.size = W1.heap.size := by omega
    have m1 : ¬ W1.heap.size = w3.heap.size := by omega
    have m2 : ¬ w3.heap.size = W1.heap.size + 1 := by omega
    have m3 : ¬ W1.heap.size + 1 = w3.heap.size := by omega
    have i0 := HRB4.out.i0
    have i1 := HRB4.out.i1
    have i2 := HRB4.out.i2
    have if0 := HRB4.out.ifr 0
    have if1 := HRB4.out.ifr 1
    have if2 := HRB4.out.ifr 2
    have r0 := HRB4.out.fl.c0
    have r1 := HRB4.out.fl.c1
    have r2 := HRB4.out.fl.c2
    have rf0 := HRB4.out.fl.free 0
    have rf1 := HRB4.out.fl.free 1
    have rf2 := HRB4.out.fl.free 2
    clear F4 HR3 HRB3
    go_wp2_with fail
    generalize w3.alloc (.cells #[.int .i64 v.f, .int .i64 5, .int .i64 v.p] 29) = w4 at p0 p1 p2 i0 i1 i2 if0 if1 if2 r0 r1 r2 rf0 rf1 rf2 HRB4 HR4 ⊢
    go_region
    go_wp2
    refine bodyPost_ret (v := .tuple #[img0, .agg #[.int .i64 v.f, .int .i64 5, .int .i64 v.p], .pointer (some ⟨l, 0, none⟩)]) (by simp only [results, Tryz.results7, img0]; go_simp) rfl ?_
    rw [← HQ.out]
    refine ⟨_, _, _, rfl, y, Led.drew (HR4.out.led.turned (RB.tn w4) (by have := HL.out; simp; omega)), HR4.out.ok, HLIM.out, gb_trans HGW.out (gb_trans HRB4.out.end (gb_drew _ _)), .inr (.inl ⟨HF3.out.1, rfl, rfl, HF3.out.2.1, HF3.out.2.2⟩)⟩
  · have HRB3 := Lib.hid RB3
    have HF3 := Lib.hid (And.intro (by rw [HX.out.2.1, HX.out.2.2, Int.zero_add, Int.zero_add] at tight; exact tight : x0.w < v.w ∨ x0.h < v.h ∨ x0.b < ((4 * (v.w * v.h) : Nat) : Int) ∨ x0.s < v.N) (And.intro hy (hby.trans HX.out.2.1)))
    clear RB3 T3 tight hy hby
    unfold flF
    have F4 : Fl w3.heap.size 4 5 j (w3.alloc (.cells #[.int .i64 4, .int .i64 5, .int .i64 j] 29)) := blk_at
    have HRB4 := Lib.hid (HRB3.out.gb (World.grownBy_alloc w3 (.cells #[.int .i64 4, .int .i64 5, .int .i64 j] 29) none))
    have HR4 := Lib.hid (HR3.out.grown (World.grownBy_alloc w3 (.cells #[.int .i64 4, .int .i64 5, .int .i64 j] 29) none))
    have hb3 := HRB3.out.lt
    have p0 := F4.c0
    have p1 := F4.c1
    have p2 := F4.c2
    have m0 : ¬ w3.heap.size = W1.heap.size := by omega
    have m1 : ¬ W1.heap.size = w3.heap.size := by omega
    have m2 : ¬ w3.heap.size = W1.heap.size + 1 := by omega
    have m3 : ¬ W1.heap.size + 1 = w3.heap.size := by omega
    have i0 := HRB4.out.i0
    have i1 := HRB4.out.i1
    have i2 := HRB4.out.i2
    have if0 := HRB4.out.ifr 0
    have if1 := HRB4.out.ifr 1
    have if2 := HRB4.out.ifr 2
    have r0 := HRB4.out.fl.c0
    have r1 := HRB4.out.fl.c1
    have r2 := HRB4.out.fl.c2
    have rf0 := HRB4.out.fl.free 0
    have rf1 := HRB4.out.fl.free 1
    have rf2 := HRB4.out.fl.free 2
    clear F4 HR3 HRB3
    go_wp2_with fail
    generalize w3.alloc (.cells #[.int .i64 4, .int .i64 5, .int .i64 j] 29) = w4 at p0 p1 p2 i0 i1 i2 if0 if1 if2 r0 r1 r2 rf0 rf1 rf2 HRB4 HR4 ⊢
    go_region
    go_wp2
    refine bodyPost_ret (v := .tuple #[img0, .agg #[.int .i64 4, .int .i64 5, .int .i64 j], .pointer (some ⟨l, 0, none⟩)]) (by simp only [results, Tryz.results7, img0]; go_simp) rfl ?_
    rw [← HQ.out]
    refine ⟨_, _, _, rfl, y, Led.drew (HR4.out.led.turned (RB.tn w4) (by have := HL.out; simp; omega)), HR4.out.ok, HLIM.out, gb_trans HGW.out (gb_trans HRB4.out.end (gb_drew _ _)), .inr (.inr ⟨HF3.out.1, rfl, ⟨j, hj, rfl⟩, HF3.out.2.1, HF3.out.2.2⟩)⟩

end Go.Proofs.YtmhghkgcfgacdaaGreat.Qo
