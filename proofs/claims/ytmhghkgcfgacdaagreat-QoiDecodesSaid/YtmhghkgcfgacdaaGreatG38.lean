/- Texts of one kind, one behind the other: Qp2. -/
import Derived.Test.YtmhghkgcfgacdaaGreatG25
import Derived.Test.YtmhghkgcfgacdaaGreatG30
import Derived.Test.YtmhghkgcfgacdaaGreatG35
import Derived.Test.YtmhghkgcfgacdaaGreatG36
import Derived.Test.YtmhghkgcfgacdaaGreatG37
/- Layer 26: a step of the last pixel is written. -/
namespace Go.Proofs.YtmhghkgcfgacdaaGreat.Qo
open Go.ChangeShapes Go.WideShapes Go.ChangeAt Go.RowKit
open Go.Proofs.YtmhghkgcfgacdaaGreat.Le Go.Proofs.YtmhghkgcfgacdaaGreat.Tk Go.Proofs.YtmhghkgcfgacdaaGreat.Sr Go.Proofs.YtmhghkgcfgacdaaGreat.Sh Go.Proofs.YtmhghkgcfgacdaaGreat.Qw Go.Proofs.YtmhghkgcfgacdaaGreat.Bd
open Go.Proofs.YtmhghkgcfgacdaaGreat.Ra hiding bt
set_option linter.unusedVariables false

set_option maxRecDepth 100000 in
theorem step_y (k n : Nat) (C : Array Value) (b B : Nat) (p L : Value) (bs : List UInt8) (w : World) (hk : k ≤ 3) (hn : n < 64) (hC : C.size = 262) (h : Bo 101 C b 260 B p L bs w) (hp : Ad b 260 p) (hlen : bs.length ≤ 1000000) :
    Calls Tryz.prog 58 #[.pointer (some ⟨b, 0, none⟩), .int .i64 k, .int .i64 n] w fun e w' => e = .returned (.tuple #[]) ∧ (∃ L', Bo 101 (wrC C b 260 L') b 260 B (.pointer (some ⟨b, 260, none⟩)) L' (bs ++ [UInt8.ofNat (64 * k + n)]) w') ∧ Fr b B w w' ∧ Fy b w w' := by
  have KB := byte_y 101 C b 260 B p L bs (UInt8.ofNat (64 * k + n)) w h hp (by rw [hC]; exact liesQ) hlen
  have e1 : ((UInt8.ofNat (64 * k + n)).toNat : Int) = ((64 * k + n : Nat) : Int) := by
    rw [UInt8.toNat_ofNat']
    omega
  rw [e1] at KB
  have KB := Lib.hid KB
  have o1 := or_six k n hk hn
  have w1 : IntKind.i64.wrap ((k : Int) * 64) = (k : Int) * 64 := IntWalk.i64_in _ (by omega)
  have w2 : IntKind.u8.wrap ((64 * k + n : Nat) : Int) = ((64 * k + n : Nat) : Int) := IntWalk.u8_in _ (by omega)
  have w3 : ((64 * k + n : Nat) : Int) % 256 = ((64 * k + n : Nat) : Int) := by omega
  obtain ⟨N, hN⟩ : ∃ N, 64 * k + n = N := ⟨_, rfl⟩
  rw [hN] at KB o1 w2 w3 ⊢
  have hb := blk_lt h.blk
  clear h hp hC hN e1
  go_enter Tryz.func58, Tryz.ntmps58
  go_wp2_with fail
  refine KB.out.mono ?_
  rintro e w2 ⟨rfl, h2, f2⟩
  have H2 := Lib.hid h2
  have F2 := Lib.hid f2
  clear h2 f2
  go_wp2
  go_end0
  exact ⟨rfl, H2.out, F2.out⟩
theorem wrC_size (C : Array Value) (b o : Nat) (L : Value) : (wrC C b o L).size = C.size := by unfold wrC; simp

theorem bo_kept {E : TypeId} {C : Array Value} {b o B : Nat} {p L : Value} {bs : List UInt8} {w w' : World} (h : Bo E C b o B p L bs w) (g : w.grownBy w' none) : Bo E C b o B p L bs w' :=
  ⟨(g.block b (blk_lt h.blk) (by simp)).trans h.blk, h.c0, h.c1, h.own.kept g (by cases e : L.ownBlock <;> simp), h.lt, Nat.le_trans h.Bw g.size⟩
theorem bo_keep {E : TypeId} {C : Array Value} {b B : Nat} {p L : Value} {bs : List UInt8} {w w' : World} {r g bl a : Nat} (h : Bo E C b 260 B p L bs w) (hb : w'.heap[b]? = some (.cells (kpC C r g bl a) E (0, 0))) (gg : w.grownBy w' (some b)) : Bo E (kpC C r g bl a) b 260 B p L bs w' := by
  have e : ∀ k, 260 ≤ k → (kpC C r g bl a)[k]? = C[k]? := fun k hk => by
    have hp : plQ r g bl a < 64 := plQ_lt _ _ _ _
    unfold kpC
    rw [st4_far _ _ _ _ _ _ _ (by right; omega), st4_far _ _ _ _ _ _ _ (by omega)]
  exact ⟨hb, by rw [e 260 (by decide)]; exact h.c0, by rw [e 261 (by decide)]; exact h.c1, h.own.kept (row := some b) gg (.inr h.apart), h.lt, Nat.le_trans h.Bw gg.size⟩

set_option maxRecDepth 100000 in
set_option maxHeartbeats 2000000 in
theorem put_same (b B bk off N c R : Nat) (p : Nat → Nat → Nat) (C : Array Value) (pp L : Value) (bs : List UInt8) (w : World) (hC : C.size = 262) (h : Bo 101 C b 260 B pp L bs w) (hp : Ad b 260 pp) (hlen : bs.length ≤ 1000000)
    (X : PX bk off N p w) (A : AL N R p) (hc : 4 * N ≤ c) (hN : N ≤ 100000) (hcm : c ≤ 9223372036854775807) (hlt : ∀ j, p 0 j < 256) (h0 : ∀ j, j < 4 → C[j]? = some (.int .u8 (p 0 j : Nat))) :
    Calls Tryz.prog 40 #[.pointer (some ⟨b, 0, none⟩), .slice (some ⟨bk, off, none⟩) (4 * N : Nat) c] w (fun e w' => e = .returned (.int .i64 R) ∧ (∃ L', Bo 101 (kpC (wrC C b 260 L') (p 0 0) (p 0 1) (p 0 2) (p 0 3)) b 260 B (.pointer (some ⟨b, 260, none⟩)) L' (bs ++ [UInt8.ofNat (64 * 3 + (R - 1))]) w') ∧ Fr b B w w') := by
  have X0 := X 0 0 (by have := A.one; have := A.le; omega) (by decide)
  have X1 := X 0 1 (by have := A.one; have := A.le; omega) (by decide)
  have X2 := X 0 2 (by have := A.one; have := A.le; omega) (by decide)
  have X3 := X 0 3 (by have := A.one; have := A.le; omega) (by decide)
  simp only [Nat.mul_zero, Nat.zero_add, Nat.add_zero] at X0 X1 X2 X3
  have KF := Lib.hid (first_calls bk off (4 * N) c _ _ _ _ w (by have := A.one; have := A.le; omega) X0 X1 X2 X3)
  obtain ⟨r0, e0⟩ : ∃ v, p 0 0 = v := ⟨_, rfl⟩
  obtain ⟨r1, e1⟩ : ∃ v, p 0 1 = v := ⟨_, rfl⟩
  obtain ⟨r2, e2⟩ : ∃ v, p 0 2 = v := ⟨_, rfl⟩
  obtain ⟨r3, e3⟩ : ∃ v, p 0 3 = v := ⟨_, rfl⟩
  rw [e0, e1, e2, e3] at KF ⊢
  have HLT := Lib.hid (And.intro (e0 ▸ hlt 0 : r0 < 256) (And.intro (e1 ▸ hlt 1 : r1 < 256) (And.intro (e2 ▸ hlt 2 : r2 < 256) (e3 ▸ hlt 3 : r3 < 256))))
  have c0 := h0 0 (by decide)
  have c1 := h0 1 (by decide)
  have c2 := h0 2 (by decide)
  have c3 := h0 3 (by decide)
  rw [e0] at c0
  rw [e1] at c1
  rw [e2] at c2
  rw [e3] at c3
  have HC := Lib.hid (And.intro c0 (And.intro c1 (And.intro c2 c3)))
  have HH := Lib.hid h
  have HX := Lib.hid X
  have HA := Lib.hid A
  have HL := Lib.hid (And.intro hC (And.intro hp (And.intro hlen (And.intro hc (And.intro hN hcm)))))
  clear h X A hC hp hlen hc hN hcm h0 hlt X0 X1 X2 X3 e0 e1 e2 e3 c0 c1 c2 c3
  unfold cQ at KF
  go_enter Tryz.func40, Tryz.ntmps40
  go_wp2_with fail
  refine KF.out.mono ?_
  rintro e w1 ⟨rfl, g1⟩
  have g2 := gb_trans g1 (World.grownBy_alloc w1 (.cells #[.int .u8 r0, .int .u8 r1, .int .u8 r2, .int .u8 r3] 67) none)
  have HB2 := Lib.hid (bo_kept HH.out g2)
  have HX2 := Lib.hid (HX.out.kept g2)
  have HG2 := Lib.hid g2
  have HK2 := Lib.hid (blk_at (w := w1) (o := .cells #[.int .u8 r0, .int .u8 r1, .int .u8 r2, .int .u8 r3] 67))
  have HI := Lib.hid (show B ≤ w1.heap.size by have := HH.out.Bw; have := g1.size; omega)
  go_upto_region 2 with fail
  have HH0 := Lib.hid HH.out.Bw
  clear g1 g2 KF HH HX
  obtain ⟨i0, hi0⟩ : ∃ i, w1.heap.size = i := ⟨_, rfl⟩
  rw [hi0] at HK2 HI ⊢
  generalize w1.alloc (.cells #[.int .u8 r0, .int .u8 r1, .int .u8 r2, .int .u8 r3] 67) = w2 at HB2 HX2 HG2 HK2 ⊢
  clear hi0
  have k0 := blk_cell HK2.out 0
  have k1 := blk_cell HK2.out 1
  have k2 := blk_cell HK2.out 2
  have k3 := blk_cell HK2.out 3
  simp only [List.getElem?_toArray, List.getElem?_cons_succ, List.getElem?_cons_zero] at k0 k1 k2 k3
  have b0 := (blk_cell HB2.out.blk 0).trans HC.out.1
  have b1 := (blk_cell HB2.out.blk 1).trans HC.out.2.1
  have b2 := (blk_cell HB2.out.blk 2).trans HC.out.2.2.1
  have b3 := (blk_cell HB2.out.blk 3).trans HC.out.2.2.2
  go_region
  have HB3 := Lib.hid (bo_kept HB2.out (gb_drew w2 none))
  have HX3 := Lib.hid (HX2.out.kept (gb_drew w2 none))
  have HG3 := Lib.hid (gb_trans HG2.out (gb_drew w2 none))
  have HK3 := Lib.hid (((gb_drew w2 none).block i0 (blk_lt HK2.out) (by simp)).trans HK2.out)
  clear HB2 HX2 HG2 HK2 k0 k1 k2 k3 b0 b1 b2 b3
  generalize w2.drew = w3 at HB3 HX3 HG3 HK3 ⊢
  have KA := Lib.hid (alike_calls bk off N c R p w3 HX3.out HA.out HL.out.2.2.2.1 HL.out.2.2.2.2.1 HL.out.2.2.2.2.2)
  go_wp2_with fail
  refine KA.out.mono ?_
  rintro e w4 ⟨rfl, g4⟩
  have HB4 := Lib.hid (bo_kept HB3.out g4)
  have HG4 := Lib.hid (gb_trans HG3.out g4)
  have HK4 := Lib.hid ((g4.block i0 (blk_lt HK3.out) (by simp)).trans HK3.out)
  have hR1 := HA.out.one
  have hR2 := HA.out.most
  have wr1 : IntKind.i64.wrap ((R : Int) - 1) = ((R - 1 : Nat) : Int) := by rw [IntWalk.i64_in _ (by omega)]; omega
  have KS := Lib.hid (step_y 3 (R - 1) C b B pp L bs w4 (by decide) (by omega) HL.out.1 HB4.out HL.out.2.1 HL.out.2.2.1)
  clear g4 KA HB3 HX3 HG3 HK3 hR1 hR2
  go_wp2_with fail
  refine KS.out.mono ?_
  rintro e w5 ⟨rfl, ⟨L', B5⟩, F5, Y5⟩
  have hb0 : i0 ≠ b := by have := HI.out; have := B5.lt; omega
  have HK5 := Lib.hid (Y5.same i0 _ HK4.out hb0 (fun C z e => by simp at e))
  have HB5 := Lib.hid B5
  have HF5 := Lib.hid F5
  have KK := fun (u : World) (h : u.heap[b]? = some (.cells (wrC C b 260 L') 101 (0, 0))) => keep_calls _ (wrC C b 260 L') b r0 r1 r2 r3 u (by rw [wrC_size, HL.out.1]; decide) h HLT.out.1 HLT.out.2.1 HLT.out.2.2.1 HLT.out.2.2.2
  unfold cQ at KK
  have KK := Lib.hid KK
  have HBI := Lib.hid hb0
  have hbl := blk_lt B5.blk
  have k0 := blk_cell HK5.out 0
  have k1 := blk_cell HK5.out 1
  have k2 := blk_cell HK5.out 2
  have k3 := blk_cell HK5.out 3
  simp only [List.getElem?_toArray, List.getElem?_cons_succ, List.getElem?_cons_zero] at k0 k1 k2 k3
  clear B5 F5 Y5 KS hb0 wr1
  go_upto_region 6 with fail
  go_region_held3 (fun w' => w'.cell? ⟨i0, 0, none⟩ = some (.int .u8 r0) ∧ w'.cell? ⟨i0, 1, none⟩ = some (.int .u8 r1) ∧ w'.cell? ⟨i0, 2, none⟩ = some (.int .u8 r2) ∧ w'.cell? ⟨i0, 3, none⟩ = some (.int .u8 r3)) (go_keep)
    (first | (go_at_call 60; (with_reducible refine (KK.out _ (((gb_drew w5 none).block b (blk_lt HB5.out.blk) (by simp)).trans HB5.out.blk)).mono ?_); rintro e w9 ⟨rfl, hb9, g9⟩; have K9 := (g9.block i0 (blk_lt HK5.out) (by simpa using HBI.out)).trans (((gb_drew w5 none).block i0 (blk_lt HK5.out) (by simp)).trans HK5.out); have k0 := blk_cell K9 0; have k1 := blk_cell K9 1; have k2 := blk_cell K9 2; have k3 := blk_cell K9 3; simp only [List.getElem?_toArray, List.getElem?_cons_succ, List.getElem?_cons_zero] at k0 k1 k2 k3))
  all_goals
    have G9 := Lib.hid (gb_trans (gb_drew w5 (some b)) g9)
    have B9 := Lib.hid hb9
    clear k0 k1 k2 k3 K9 hb9 g9 KK
    go_wp2
    go_ret
    refine ⟨rfl, ⟨_, bo_keep HB5.out B9.out G9.out⟩, ?_⟩
    have f1 : Fr b B w w4 := Fr.row HG4.out (by have := HB4.out.Bw; have := HI.out; have := HH0.out; omega) (by simp)
    refine (f1.trans HF5.out).trans ⟨G9.out.os, G9.out.tape, G9.out.output, G9.out.size, fun k h1 h2 => G9.out.block k (by have := HB5.out.Bw; omega) (by simpa using h2)⟩

end Go.Proofs.YtmhghkgcfgacdaaGreat.Qo
