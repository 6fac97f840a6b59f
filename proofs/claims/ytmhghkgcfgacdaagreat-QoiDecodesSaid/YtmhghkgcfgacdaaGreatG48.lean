/- Texts of one kind, one behind the other: Qf2. -/
import Derived.Test.YtmhghkgcfgacdaaGreatG19
import Derived.Test.YtmhghkgcfgacdaaGreatG34
import Derived.Test.YtmhghkgcfgacdaaGreatG39
import Derived.Test.YtmhghkgcfgacdaaGreatG47
/- Layer 26: heads, by the code and by the document (written by wip/gen/qf.py). -/
namespace Go.Proofs.YtmhghkgcfgacdaaGreat.Qo
open Go.ChangeShapes Go.WideShapes Go.ChangeAt Go.RowKit
open Go.Proofs.YtmhghkgcfgacdaaGreat.Le Go.Proofs.YtmhghkgcfgacdaaGreat.Tk Go.Proofs.YtmhghkgcfgacdaaGreat.Sr Go.Proofs.YtmhghkgcfgacdaaGreat.Sh Go.Proofs.YtmhghkgcfgacdaaGreat.Qw Go.Proofs.YtmhghkgcfgacdaaGreat.Qd
open Go.Proofs.YtmhghkgcfgacdaaGreat.Ra hiding bt
set_option linter.unusedVariables false

set_option maxRecDepth 100000 in
set_option maxHeartbeats 4000000 in
theorem heads_bad (s : ByteArray) (f p : Nat) (hs : s.size ≤ 1000) (KD0 : ∀ (c l : Nat) (x : St) (u : World), Rd c l s 0 x u → x.r = 0 → x.st + 1 ≤ x.s → Calls Tryz.prog 23 #[.pointer (some ⟨c, 0, none⟩)] u (fun e w' => e = .returned (.tuple #[.int .i64 0, .int .i64 0, .agg #[.int .i64 f, .int .i64 5, .int .i64 p]]) ∧ Tn u w' [c, l]))
    (KR0 : ∀ u, Calls Tryz.prog 6 #[.string s] u fun e w' => e = .returned (.tuple #[.int .i64 0, .int .i64 0]) ∧ u.grownBy w' none) (KQ0 : ∀ u, Calls Tryz.prog 10 #[.string s] u fun e w' => e = .returned (.agg #[.int .i64 0, .int .i64 0, .slice none 0 0, .int .i64 f, .int .i64 p]) ∧ u.grownBy w' none) (W : World) :
    Calls Tryz.prog 11 #[.string s] W fun e w' => e = .returned (.bool true) ∧ W.grownBy w' none := by
  have KW := Lib.hid (fun u => wide_calls u)
  have KN := Lib.hid (fun u => new_calls 16384 16384 262144 1048576 u)
  have KS := Lib.hid (fun l u => snew_calls l s u (by omega))
  have hok : (St.new 16384 16384 262144 1048576).Ok := St.new_ok (by decide) (by decide) (by decide) (by decide)
  have hst : (St.new 16384 16384 262144 1048576).st + 1 ≤ (St.new 16384 16384 262144 1048576).s := by decide
  have hr : (St.new 16384 16384 262144 1048576).r = 0 := rfl
  obtain ⟨x0, hx0⟩ : ∃ x, St.new 16384 16384 262144 1048576 = x := ⟨_, rfl⟩
  rw [hx0] at KN hok hst hr
  have HOK := Lib.hid hok
  have KD := Lib.hid (fun c l u (R : Rd c l s 0 x0 u) => KD0 c l x0 u R hr hst)
  have KR := Lib.hid KR0
  have KQ := Lib.hid KQ0
  clear KQ0
  clear hx0 hok hst hr hs KD0 KR0
  go_enter Tryz.func11, Tryz.ntmps11
  go_wp2_with fail
  refine (KW.out _).mono ?_
  rintro e w0 ⟨rfl, g0⟩
  have HG0 := Lib.hid g0
  clear g0
  go_wp2_with fail
  refine (KN.out _).mono ?_
  rintro e w1 ⟨l, rfl, L1, g1, hl⟩
  have HG1 := Lib.hid (gb_trans HG0.out g1)
  have HL1 := Lib.hid L1
  have hlw1 := L1.lt
  have HLW := Lib.hid (show W.heap.size ≤ l by have := HG0.out.size; omega)
  clear L1 g1 hl
  go_wp2_with fail
  refine (KS.out l _).mono ?_
  rintro e w2 ⟨c, rfl, S2, g2, hc⟩
  have R2 : Rd c l s 0 x0 w2 := ⟨S2 hlw1, HL1.out.grown g2 (by simp), HOK.out⟩
  have HG2 := Lib.hid (gb_trans HG1.out g2)
  have HCW := Lib.hid (show W.heap.size ≤ c by have := HG1.out.size; omega)
  have HKD := Lib.hid (KD.out c l w2 R2)
  clear S2 g2 hc R2 HL1 hlw1 KD
  go_wp2_with fail
  refine HKD.out.mono ?_
  rintro e w3 ⟨rfl, T3⟩
  have G3 := Tn.own HG2.out T3 (by intro k hk; simp at hk; have := HCW.out; have := HLW.out; omega)
  have g4 := World.grownBy_alloc w3 (.cells #[.int .i64 f, .int .i64 5, .int .i64 p] 29) none
  have F4 : Fl w3.heap.size f 5 p (w3.alloc (.cells #[.int .i64 f, .int .i64 5, .int .i64 p] 29)) := blk_at
  have HG4 := Lib.hid (gb_trans G3 g4)
  have HF4 := Lib.hid F4
  clear G3 g4 F4 T3 HKD HG2
  go_wp2_with fail
  generalize w3.alloc (.cells #[.int .i64 f, .int .i64 5, .int .i64 p] 29) = w4 at HG4 HF4 ⊢
  refine (KR.out _).mono ?_
  rintro e w5 ⟨rfl, g5⟩
  have HG5 := Lib.hid (gb_trans HG4.out g5)
  have HF5 := Lib.hid (HF4.out.turned (Tn.gb g5 (S := []) (by simp)) (by simp))
  clear g5 HG4 HF4
  go_wp2_with fail
  refine (KQ.out _).mono ?_
  rintro e w6 ⟨rfl, g6⟩
  have g7 := World.grownBy_alloc w6 (.cells #[.int .i64 0, .int .i64 0, .slice none 0 0, .int .i64 f, .int .i64 p] 39) none
  have F7 := HF5.out.turned (Tn.gb (gb_trans g6 g7) (S := []) (by simp)) (by simp)
  have I7 : (w6.alloc (.cells #[.int .i64 0, .int .i64 0, .slice none 0 0, .int .i64 f, .int .i64 p] 39)).heap[w6.heap.size]? = _ := blk_at
  have HG7 := Lib.hid (gb_trans HG5.out (gb_trans g6 g7))
  have p0 := F7.c0
  have p1 := F7.c1
  have p2 := F7.c2
  have j3 := blk_cell I7 3
  have j4 := blk_cell I7 4
  simp only [List.getElem?_toArray, List.getElem?_cons_succ, List.getElem?_cons_zero] at j3 j4
  clear g6 g7 F7 I7 HG5 HF5
  go_wp2_with fail
  generalize w6.alloc (.cells #[.int .i64 0, .int .i64 0, .slice none 0 0, .int .i64 f, .int .i64 p] 39) = w7 at HG7 p0 p1 p2 j3 j4 ⊢
  go_wp2
  go_ret
  exact ⟨rfl, HG7.out⟩

set_option maxRecDepth 100000 in
set_option maxHeartbeats 4000000 in
theorem heads_ok (s : ByteArray) (gw gh : Nat) (hs : s.size ≤ 1000) (hgw : 1 ≤ gw) (KD0 : ∀ (c l : Nat) (x : St) (u : World), Rd c l s 0 x u → x.r = 0 → x.st + 1 ≤ x.s → Calls Tryz.prog 23 #[.pointer (some ⟨c, 0, none⟩)] u (fun e w' => e = .returned (.tuple #[.int .i64 gw, .int .i64 gh, .agg #[.int .i64 0, .int .i64 0, .int .i64 0]]) ∧ Tn u w' [c, l]))
    (KR0 : ∀ u, Calls Tryz.prog 6 #[.string s] u fun e w' => e = .returned (.tuple #[.int .i64 gw, .int .i64 gh]) ∧ u.grownBy w' none) (W : World) :
    Calls Tryz.prog 11 #[.string s] W fun e w' => e = .returned (.bool true) ∧ W.grownBy w' none := by
  have KW := Lib.hid (fun u => wide_calls u)
  have KN := Lib.hid (fun u => new_calls 16384 16384 262144 1048576 u)
  have KS := Lib.hid (fun l u => snew_calls l s u (by omega))
  have hok : (St.new 16384 16384 262144 1048576).Ok := St.new_ok (by decide) (by decide) (by decide) (by decide)
  have hst : (St.new 16384 16384 262144 1048576).st + 1 ≤ (St.new 16384 16384 262144 1048576).s := by decide
  have hr : (St.new 16384 16384 262144 1048576).r = 0 := rfl
  obtain ⟨x0, hx0⟩ : ∃ x, St.new 16384 16384 262144 1048576 = x := ⟨_, rfl⟩
  rw [hx0] at KN hok hst hr
  have HOK := Lib.hid hok
  have KD := Lib.hid (fun c l u (R : Rd c l s 0 x0 u) => KD0 c l x0 u R hr hst)
  have KR := Lib.hid KR0
  have d0 : ((gw : Int) == 0) = false := by rw [beq_eq_false_iff_ne]; omega
  have d0' : ¬ (gw : Int) = 0 := by omega
  clear hgw
  clear hx0 hok hst hr hs KD0 KR0
  go_enter Tryz.func11, Tryz.ntmps11
  go_wp2_with fail
  refine (KW.out _).mono ?_
  rintro e w0 ⟨rfl, g0⟩
  have HG0 := Lib.hid g0
  clear g0
  go_wp2_with fail
  refine (KN.out _).mono ?_
  rintro e w1 ⟨l, rfl, L1, g1, hl⟩
  have HG1 := Lib.hid (gb_trans HG0.out g1)
  have HL1 := Lib.hid L1
  have hlw1 := L1.lt
  have HLW := Lib.hid (show W.heap.size ≤ l by have := HG0.out.size; omega)
  clear L1 g1 hl
  go_wp2_with fail
  refine (KS.out l _).mono ?_
  rintro e w2 ⟨c, rfl, S2, g2, hc⟩
  have R2 : Rd c l s 0 x0 w2 := ⟨S2 hlw1, HL1.out.grown g2 (by simp), HOK.out⟩
  have HG2 := Lib.hid (gb_trans HG1.out g2)
  have HCW := Lib.hid (show W.heap.size ≤ c by have := HG1.out.size; omega)
  have HKD := Lib.hid (KD.out c l w2 R2)
  clear S2 g2 hc R2 HL1 hlw1 KD
  go_wp2_with fail
  refine HKD.out.mono ?_
  rintro e w3 ⟨rfl, T3⟩
  have G3 := Tn.own HG2.out T3 (by intro k hk; simp at hk; have := HCW.out; have := HLW.out; omega)
  have g4 := World.grownBy_alloc w3 (.cells #[.int .i64 0, .int .i64 0, .int .i64 0] 29) none
  have F4 : Fl w3.heap.size 0 0 0 (w3.alloc (.cells #[.int .i64 0, .int .i64 0, .int .i64 0] 29)) := blk_at
  have HG4 := Lib.hid (gb_trans G3 g4)
  have HF4 := Lib.hid F4
  clear G3 g4 F4 T3 HKD HG2
  go_wp2_with fail
  generalize w3.alloc (.cells #[.int .i64 0, .int .i64 0, .int .i64 0] 29) = w4 at HG4 HF4 ⊢
  refine (KR.out _).mono ?_
  rintro e w5 ⟨rfl, g5⟩
  have HG5 := Lib.hid (gb_trans HG4.out g5)
  have F5 := HF4.out.turned (Tn.gb g5 (S := []) (by simp)) (by simp)
  have p0 := F5.c0
  have p1 := F5.c1
  have p2 := F5.c2
  clear g5 HG4 HF4 F5
  go_wp2
  go_ret
  exact ⟨rfl, HG5.out⟩

theorem heads_of {s : ByteArray} {v : TV} (C : Cl s v) (hs : s.size ≤ 1000) (hw0 : (v.w = 0 ∧ v.h = 0 ∧ v.f ≠ 0) ∨ 1 ≤ v.w) (l : List (Nat × Nat × Nat × Nat)) (KQ : ∀ W, Calls Tryz.prog 10 #[.string s] W (DQ W v.w v.h v.f v.p l)) (W : World) :
    Calls Tryz.prog 11 #[.string s] W fun e w' => e = .returned (.bool true) ∧ W.grownBy w' none := by
  have KD := sd_of C
  have KR := fun u => rsides_of C (by omega) u
  have KD : ∀ (c l : Nat) (x : St) (u : World), Rd c l s 0 x u → x.r = 0 → x.st + 1 ≤ x.s → Calls Tryz.prog 23 #[.pointer (some ⟨c, 0, none⟩)] u (fun e w' => e = .returned (.tuple #[.int .i64 v.w, .int .i64 v.h, if v.w = 0 then flF 5 v.f v.p else okT]) ∧ Tn u w' [c, l]) := KD
  rcases hw0 with ⟨w0, h0, f0⟩ | w1
  · rw [w0, h0] at KD KR
    simp only [if_true] at KD
    exact heads_bad s v.f v.p hs KD KR (fun u => (KQ u).mono (fun e w' ⟨g, h⟩ => by
      rcases h with ⟨_, h⟩ | ⟨h, _⟩
      · exact ⟨h, g⟩
      · exact absurd h f0)) W
  · rw [if_neg (by omega)] at KD
    exact heads_ok s v.w v.h hs w1 KD KR W

end Go.Proofs.YtmhghkgcfgacdaaGreat.Qo
