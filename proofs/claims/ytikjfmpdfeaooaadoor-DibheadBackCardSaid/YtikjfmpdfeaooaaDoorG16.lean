/- Texts of one kind, one behind the other: DhM, DhM40s, DhM40g, DhM40b, DhM52g. -/
import Derived.BigRegion
import Derived.Deep.LoopGhost
import Derived.Test.YtikjfmpdfeaooaaDoorG12
import Derived.Test.YtikjfmpdfeaooaaDoorG14
import Derived.Test.YtikjfmpdfeaooaaDoorG15
/- Layer 20: masks that are told: what their walk holds (written by wip/gen/dhm.py). -/
namespace Go.Proofs.YtikjfmpdfeaooaaDoor.Dh
open Go.ChangeShapes Go.WideShapes Go.ChangeAt Go.RowKit
open Go.Proofs.YtikjfmpdfeaooaaDoor.Le Go.Proofs.YtikjfmpdfeaooaaDoor.Sr Go.Proofs.YtikjfmpdfeaooaaDoor.Ma
set_option linter.unusedVariables false

theorem Tab.tn {w w' : World} {S : List Nat} (h : Tab w) (k : Tn w w' S) (hs : 0 ∉ S) : Tab w' := fun j hj => by
  have h1 := h j hj
  have e := k.block 0 h.lt hs
  simp only [World.cell?] at h1 ⊢
  rw [e]
  exact h1
theorem MI.st {W w : World} {b l : Nat} {fm : Int} {p : Nat} {S X Y P D M C : Int} (h : MI W b l fm p S X Y P D M C w) {k i : Nat} {v : Value} (hk : W.heap.size + 1 + 1 + 1 < k) : MI W b l fm p S X Y P D M C (w.setCell ⟨k, i, none⟩ v) :=
  ⟨blk_other h.r (by omega), blk_other h.n (by omega), blk_other h.s (by omega), blk_other h.f (by omega), tn_own1 h.t (by omega)⟩
/-- The four blocks, the list of words, the source with its ledger. -/
structure MK (W : World) (b l : Nat) (s : ByteArray) (p q f t : Nat) (fm : Int) (x : St) (S X Y P D C : Int) (lb : Nat) (L : Array Value) (w : World) : Prop where
  mi : MI W b l fm p S X Y P D 3 C w
  a : w.heap[lb]? = some (.cells L 112 (0, 0))
  lt : W.heap.size + 1 + 1 + 1 < lb
  sl : SL b l s q f t x w
  hb : b < W.heap.size
  hl : l < W.heap.size
theorem MK.gb {W w w' : World} {b l : Nat} {s : ByteArray} {p q f t : Nat} {fm : Int} {x : St} {S X Y P D C : Int} {lb : Nat} {L : Array Value} (h : MK W b l s p q f t fm x S X Y P D C lb L w) (g : w.grownBy w' none) : MK W b l s p q f t fm x S X Y P D C lb L w' :=
  ⟨h.mi.gb h.hb h.hl g, old0 g h.a (blk_lt h.a) (by simp), h.lt, h.sl.grown g, h.hb, h.hl⟩
theorem MK.set {W w : World} {b l : Nat} {s : ByteArray} {p q f t : Nat} {fm : Int} {x : St} {S X Y P D C : Int} {lb : Nat} {L : Array Value} (h : MK W b l s p q f t fm x S X Y P D C lb L w) (i : Nat) (v : Value) : MK W b l s p q f t fm x S X Y P D C lb (L.setIfInBounds i v) (w.setCell ⟨lb, i, none⟩ v) :=
  ⟨h.mi.st h.lt, blk_set h.a i v, h.lt, h.sl.st (by have := h.lt; have := h.hb; omega) (by have := h.lt; have := h.hl; omega), h.hb, h.hl⟩
theorem MK.as {W w : World} {b l : Nat} {s : ByteArray} {p q f t : Nat} {fm : Int} {x : St} {S X Y P D C : Int} {lb : Nat} {L L' : Array Value} (h : MK W b l s p q f t fm x S X Y P D C lb L w) (e : L = L') : MK W b l s p q f t fm x S X Y P D C lb L' w := e ▸ h
theorem MK.tab {W w : World} {b l : Nat} {s : ByteArray} {p q f t : Nat} {fm : Int} {x : St} {S X Y P D C : Int} {lb : Nat} {L : Array Value} (h : MK W b l s p q f t fm x S X Y P D C lb L w) (hT : Tab W) (h1 : 0 ≠ b) (h2 : 0 ≠ l) : Tab w := Tab.tn hT h.mi.t (by simp [h1, h2])
def lm (m0 m1 m2 m3 : Int) (k : Nat) : Array Value := #[.int .i64 (if 0 < k then m0 else 0), .int .i64 (if 1 < k then m1 else 0), .int .i64 (if 2 < k then m2 else 0), .int .i64 (if 3 < k then m3 else 0)]

end Go.Proofs.YtikjfmpdfeaooaaDoor.Dh

/- Layer 20: masks that are told: too few bytes behind a head of 40 (written by wip/gen/dhm.py). -/
namespace Go.Proofs.YtikjfmpdfeaooaaDoor.Dh
open Go.ChangeShapes Go.WideShapes Go.ChangeAt Go.RowKit
open Go.Proofs.YtikjfmpdfeaooaaDoor.Le Go.Proofs.YtikjfmpdfeaooaaDoor.Sr Go.Proofs.YtikjfmpdfeaooaaDoor.Ma
set_option linter.unusedVariables false

set_option maxRecDepth 100000 in
set_option maxHeartbeats 8000000 in
theorem cmasks_40_short (b l : Nat) (s z : ByteArray) (p q f t : Nat) (fm : Int) (X Y P D C : Int) (x : St) (W : World) (h : SL b l s q f t x W) (ok : x.Ok) (rd : rdB x q t 12 = false) (k0 a0 : Int) (hf : (if (x.work 1).1.r = 0 then Value.agg #[.int .i64 1, .int .i64 fm, .int .i64 t] else .agg #[.int .i64 4, .int .i64 fm, .int .i64 q]) = flV k0 fm a0) :
    Calls Tryd.prog 25 #[.agg #[.pointer (some ⟨b, 0, none⟩), .int .i64 fm, .int .i64 (p : Nat)], .string z, .agg #[.int .i64 40, .int .i64 X, .int .i64 Y, .int .i64 P, .int .i64 D, .int .i64 3, .int .i64 C]] W
      fun e w' => e = .returned (.tuple #[.agg #[.int .i64 0, .int .i64 0, .int .i64 0, .int .i64 0, .int .i64 0, .int .i64 0, .int .i64 0, .int .i64 0], flV k0 fm a0]) ∧ SL b l s q f t (x.work 1).1 w' ∧ Tn W w' [b, l] := by
  have hblt := h.so.lt
  have hllt := h.led.lt
  have HS := Lib.hid (fun u (g : W.grownBy u none) => h.grown g)
  have KT := Lib.hid (show ∀ u, SL b l s q f t x u → Calls Tryd.prog 42 #[.pointer (some ⟨b, 0, none⟩), .int .i64 12] u fun e w' => e = .returned (.tuple #[.string ⟨#[]⟩, .bool false]) ∧ SL b l s q f t (x.work 1).1 w' ∧ Tn u w' [b, l] from fun u hu => (take_no b l s _ f t _ _ u hu.so hu.led ok rd).mono (fun e w' ⟨he, ⟨h1, h2⟩, g⟩ => ⟨he, ⟨h1, h2⟩, Tn.gb g (by simp)⟩))
  have KF := Lib.hid (show ∀ u, SL b l s q f t (x.work 1).1 u → Calls Tryd.prog 43 #[.pointer (some ⟨b, 0, none⟩), .int .i64 fm] u fun e w' => e = .returned (flV k0 fm a0) ∧ SL b l s q f t (x.work 1).1 w' ∧ Tn u w' [b, l] from fun u hu => (fault_calls b l s _ f t _ fm u hu.so hu.led).mono (fun e w' ⟨he, g⟩ => ⟨by rw [he]; exact congrArg Ending.returned hf, hu.grown g, Tn.gb g (by simp)⟩))
  clear hf rd h ok
  unfold flV at KF ⊢
  go_enter Tryd.func25, Tryd.ntmps25
  go_upto_region 1 with fail
  have I0 : MI W b l  fm p 40 X Y P D 3 C _ := MI.new
  have HS0 := Lib.hid (HS.out _ (gb_trans (gb_trans (World.grownBy_alloc W (.cells #[.pointer (some ⟨b, 0, none⟩), .int .i64 fm, .int .i64 (p : Nat)] 58) none) (World.grownBy_alloc (W.alloc (.cells #[.pointer (some ⟨b, 0, none⟩), .int .i64 fm, .int .i64 (p : Nat)] 58)) (.cells #[.int .i64 40, .int .i64 X, .int .i64 Y, .int .i64 P, .int .i64 D, .int .i64 3, .int .i64 C] 62) none)) (gb_trans (World.grownBy_alloc _ (.cells #[.int .i64 0, .int .i64 0, .int .i64 0, .int .i64 0, .int .i64 0, .int .i64 0, .int .i64 0, .int .i64 0] 29) none) (World.grownBy_alloc _ (.cells #[.int .i64 0, .int .i64 0, .int .i64 0] 33) none))))
  generalize ((((W.alloc (.cells #[.pointer (some ⟨b, 0, none⟩), .int .i64 fm, .int .i64 (p : Nat)] 58)).alloc (.cells #[.int .i64 40, .int .i64 X, .int .i64 Y, .int .i64 P, .int .i64 D, .int .i64 3, .int .i64 C] 62)).alloc (.cells #[.int .i64 0, .int .i64 0, .int .i64 0, .int .i64 0, .int .i64 0, .int .i64 0, .int .i64 0, .int .i64 0] 29)).alloc (.cells #[.int .i64 0, .int .i64 0, .int .i64 0] 33)) = w0 at I0 HS0 ⊢
  clear HS
  have c0 := blk_cell I0.r 0
  have c1 := blk_cell I0.r 1
  have c2 := blk_cell I0.r 2
  have n0 := blk_cell I0.n 0
  have n1 := blk_cell I0.n 1
  have n2 := blk_cell I0.n 2
  have n3 := blk_cell I0.n 3
  have n4 := blk_cell I0.n 4
  have n5 := blk_cell I0.n 5
  have n6 := blk_cell I0.n 6
  have s0 := blk_cell I0.s 0
  have t0 := blk_free I0.s 0
  have s1 := blk_cell I0.s 1
  have t1 := blk_free I0.s 1
  have s2 := blk_cell I0.s 2
  have t2 := blk_free I0.s 2
  have s3 := blk_cell I0.s 3
  have t3 := blk_free I0.s 3
  have s4 := blk_cell I0.s 4
  have t4 := blk_free I0.s 4
  have s5 := blk_cell I0.s 5
  have t5 := blk_free I0.s 5
  have s6 := blk_cell I0.s 6
  have t6 := blk_free I0.s 6
  have s7 := blk_cell I0.s 7
  have t7 := blk_free I0.s 7
  have d0 := blk_cell I0.f 0
  have e0 := blk_free I0.f 0
  have d1 := blk_cell I0.f 1
  have e1 := blk_free I0.f 1
  have d2 := blk_cell I0.f 2
  have e2 := blk_free I0.f 2
  have l0 := blk_lt I0.r
  have l1 := blk_lt I0.n
  have l2 := blk_lt I0.s
  have l3 := blk_lt I0.f
  simp only [List.getElem?_toArray, List.getElem?_cons_succ, List.getElem?_cons_zero] at c0 c1 c2 n0 n1 n2 n3 n4 n5 n6 s0 s1 s2 s3 s4 s5 s6 s7 d0 d1 d2
  have HI0 := Lib.hid I0
  clear I0
  go_wp2_with fail
  refine (KT.out _ HS0.out).mono ?_
  rintro e w1 ⟨rfl, S9, t9⟩
  have I1 := HI0.out.turned hblt hllt t9
  have HS1 := Lib.hid S9
  clear S9 t9 HI0 HS0
  clear c0 c1 c2 n0 n1 n2 n3 n4 n5 n6 s0 t0 s1 t1 s2 t2 s3 t3 s4 t4 s5 t5 s6 t6 s7 t7 d0 d1 d2 e0 e1 e2 l0 l1 l2 l3
  have c0 := blk_cell I1.r 0
  have c1 := blk_cell I1.r 1
  have c2 := blk_cell I1.r 2
  have n0 := blk_cell I1.n 0
  have n1 := blk_cell I1.n 1
  have n2 := blk_cell I1.n 2
  have n3 := blk_cell I1.n 3
  have n4 := blk_cell I1.n 4
  have n5 := blk_cell I1.n 5
  have n6 := blk_cell I1.n 6
  have s0 := blk_cell I1.s 0
  have t0 := blk_free I1.s 0
  have s1 := blk_cell I1.s 1
  have t1 := blk_free I1.s 1
  have s2 := blk_cell I1.s 2
  have t2 := blk_free I1.s 2
  have s3 := blk_cell I1.s 3
  have t3 := blk_free I1.s 3
  have s4 := blk_cell I1.s 4
  have t4 := blk_free I1.s 4
  have s5 := blk_cell I1.s 5
  have t5 := blk_free I1.s 5
  have s6 := blk_cell I1.s 6
  have t6 := blk_free I1.s 6
  have s7 := blk_cell I1.s 7
  have t7 := blk_free I1.s 7
  have d0 := blk_cell I1.f 0
  have e0 := blk_free I1.f 0
  have d1 := blk_cell I1.f 1
  have e1 := blk_free I1.f 1
  have d2 := blk_cell I1.f 2
  have e2 := blk_free I1.f 2
  have l0 := blk_lt I1.r
  have l1 := blk_lt I1.n
  have l2 := blk_lt I1.s
  have l3 := blk_lt I1.f
  simp only [List.getElem?_toArray, List.getElem?_cons_succ, List.getElem?_cons_zero] at c0 c1 c2 n0 n1 n2 n3 n4 n5 n6 s0 s1 s2 s3 s4 s5 s6 s7 d0 d1 d2
  have HI1 := Lib.hid I1
  clear I1
  go_wp2_with fail
  refine (KF.out _ HS1.out).mono ?_
  rintro e w2 ⟨rfl, S9, t9⟩
  have I2 := HI1.out.turned hblt hllt t9
  have HS2 := Lib.hid S9
  clear S9 t9 HI1 HS1
  clear c0 c1 c2 n0 n1 n2 n3 n4 n5 n6 s0 t0 s1 t1 s2 t2 s3 t3 s4 t4 s5 t5 s6 t6 s7 t7 d0 d1 d2 e0 e1 e2 l0 l1 l2 l3
  have c0 := blk_cell I2.r 0
  have c1 := blk_cell I2.r 1
  have c2 := blk_cell I2.r 2
  have n0 := blk_cell I2.n 0
  have n1 := blk_cell I2.n 1
  have n2 := blk_cell I2.n 2
  have n3 := blk_cell I2.n 3
  have n4 := blk_cell I2.n 4
  have n5 := blk_cell I2.n 5
  have n6 := blk_cell I2.n 6
  have s0 := blk_cell I2.s 0
  have t0 := blk_free I2.s 0
  have s1 := blk_cell I2.s 1
  have t1 := blk_free I2.s 1
  have s2 := blk_cell I2.s 2
  have t2 := blk_free I2.s 2
  have s3 := blk_cell I2.s 3
  have t3 := blk_free I2.s 3
  have s4 := blk_cell I2.s 4
  have t4 := blk_free I2.s 4
  have s5 := blk_cell I2.s 5
  have t5 := blk_free I2.s 5
  have s6 := blk_cell I2.s 6
  have t6 := blk_free I2.s 6
  have s7 := blk_cell I2.s 7
  have t7 := blk_free I2.s 7
  have d0 := blk_cell I2.f 0
  have e0 := blk_free I2.f 0
  have d1 := blk_cell I2.f 1
  have e1 := blk_free I2.f 1
  have d2 := blk_cell I2.f 2
  have e2 := blk_free I2.f 2
  have l0 := blk_lt I2.r
  have l1 := blk_lt I2.n
  have l2 := blk_lt I2.s
  have l3 := blk_lt I2.f
  simp only [List.getElem?_toArray, List.getElem?_cons_succ, List.getElem?_cons_zero] at c0 c1 c2 n0 n1 n2 n3 n4 n5 n6 s0 s1 s2 s3 s4 s5 s6 s7 d0 d1 d2
  have HI2 := Lib.hid I2
  clear I2
  go_wp2
  refine bodyPost_ret (v := .tuple #[.agg #[.int .i64 0, .int .i64 0, .int .i64 0, .int .i64 0, .int .i64 0, .int .i64 0, .int .i64 0, .int .i64 0], .agg #[.int .i64 k0, .int .i64 fm, .int .i64 a0]]) (by simp only [results, Tryd.results25]; go_simp) rfl ⟨rfl, ?_, ?_⟩
  · repeat' first | with_reducible exact HS2.out | with_reducible refine SL.st ?_ (by omega) (by omega) | with_reducible refine SL.grown ?_ (gb_drew _ _)
  · repeat' first | with_reducible exact HI2.out.t | with_reducible refine tn_own1 ?_ (by omega) | with_reducible refine Tn.dr ?_

end Go.Proofs.YtikjfmpdfeaooaaDoor.Dh

/- Layer 20: masks that are told (40, good; written by wip/gen/dhm.py). -/
namespace Go.Proofs.YtikjfmpdfeaooaaDoor.Dh
open Go.ChangeShapes Go.WideShapes Go.ChangeAt Go.RowKit
open Go.Proofs.YtikjfmpdfeaooaaDoor.Le Go.Proofs.YtikjfmpdfeaooaaDoor.Sr Go.Proofs.YtikjfmpdfeaooaaDoor.Ma
set_option linter.unusedVariables false

set_option maxRecDepth 100000 in
set_option maxHeartbeats 8000000 in
theorem cmasks_40_good (b l : Nat) (s z : ByteArray) (p q f t : Nat) (fm : Int) (X Y P D C : Int) (x : St) (W : World) (h : SL b l s q f t x W) (hT : Tab W) (hgb : 0 ≠ b) (hgl : 0 ≠ l) (ok : x.Ok) (rd : rdB x q t 12 = true) (hz : z.size = 40) (zb : ByteArray) (hzb : s.extract q (q + 12) = zb) (v0 v1 v2 v3 v4 v5 v6 v7 : Int) (m0 m1 m2 m3 : Int) (e0 : ((w4 (z ++ zb) 40 : Nat) : Int) = m0) (e1 : ((w4 (z ++ zb) 44 : Nat) : Int) = m1) (e2 : ((w4 (z ++ zb) 48 : Nat) : Int) = m2) (e3 : 0 = m3) (KF : FourIs (fun k => if k = 0 then m0 else if k = 1 then m1 else if k = 2 then m2 else m3) D #[.int .i64 v0, .int .i64 v1, .int .i64 v2, .int .i64 v3, .int .i64 v4, .int .i64 v5, .int .i64 v6, .int .i64 v7] 0 0) :
    Calls Tryd.prog 25 #[.agg #[.pointer (some ⟨b, 0, none⟩), .int .i64 fm, .int .i64 (p : Nat)], .string z, .agg #[.int .i64 40, .int .i64 X, .int .i64 Y, .int .i64 P, .int .i64 D, .int .i64 3, .int .i64 C]] W
      fun e w' => e = .returned (.tuple #[.agg #[.int .i64 v0, .int .i64 v1, .int .i64 v2, .int .i64 v3, .int .i64 v4, .int .i64 v5, .int .i64 v6, .int .i64 v7], flV 0 0 0]) ∧ SL b l s (q + 12) f t (x.work 1).1 w' ∧ Tn W w' [b, l] := by
  have hblt := h.so.lt
  have hllt := h.led.lt
  have hts := h.so.ts
  have hrd := (rd_of rd).2.2
  have hzs : zb.size = 12 := by rw [← hzb, ByteArray.size_extract]; omega
  have hsz : ¬ 9223372036854775807 < z.size + zb.size := by omega
  have hzz : (z ++ zb).size = 52 := by rw [ByteArray.size_append]; omega
  have KT := Lib.hid (show ∀ u, SL b l s q f t x u → Calls Tryd.prog 42 #[.pointer (some ⟨b, 0, none⟩), .int .i64 12] u fun e w' => e = .returned (.tuple #[.string zb, .bool true]) ∧ SL b l s (q + 12) f t (x.work 1).1 w' ∧ Tn u w' [b, l] from fun u hu => by rw [← hzb]; exact (take_yes b l s _ f t _ _ u hu.so hu.led ok rd).mono (fun e w' ⟨he, ⟨h1, h2⟩, g⟩ => ⟨he, ⟨h1, h2⟩, g⟩))
  have K0 := (show ∀ u, Calls Tryd.prog 44 #[.string (z ++ zb), .int .i64 40, .int .i64 4] u fun e w' => e = .returned (.int .i64 ((w4 (z ++ zb) 40 : Nat) : Int)) ∧ u = w' from fun u => n32_calls (z ++ zb) 40 u (by omega) (by omega))
  simp only [e0] at K0
  have K0 := Lib.hid K0
  have K1 := (show ∀ u, Calls Tryd.prog 44 #[.string (z ++ zb), .int .i64 44, .int .i64 4] u fun e w' => e = .returned (.int .i64 ((w4 (z ++ zb) 44 : Nat) : Int)) ∧ u = w' from fun u => n32_calls (z ++ zb) 44 u (by omega) (by omega))
  simp only [e1] at K1
  have K1 := Lib.hid K1
  have K2 := (show ∀ u, Calls Tryd.prog 44 #[.string (z ++ zb), .int .i64 48, .int .i64 4] u fun e w' => e = .returned (.int .i64 ((w4 (z ++ zb) 48 : Nat) : Int)) ∧ u = w' from fun u => n32_calls (z ++ zb) 48 u (by omega) (by omega))
  simp only [e2] at K2
  have K2 := Lib.hid K2
  subst e3
  have HF := Lib.hid (show ∀ u, Tab u → Calls Tryd.prog 53 #[.int .i64 m0, .int .i64 m1, .int .i64 m2, .int .i64 0, .int .i64 D] u fun e w' => e = .returned (.tuple #[.agg #[.int .i64 v0, .int .i64 v1, .int .i64 v2, .int .i64 v3, .int .i64 v4, .int .i64 v5, .int .i64 v6, .int .i64 v7], .int .i64 0, .int .i64 0]) ∧ u.grownBy w' none from fun u hu => KF.1 u hu hu.lt)
  have HS := Lib.hid (fun u (g : W.grownBy u none) => h.grown g)
  have hTT := Lib.hid (And.intro hT (And.intro hgb hgl))
  unfold flV
  clear h hT hgb hgl KF hts e0 e1 e2 ok rd hz hzb hrd hzs hzz
  go_enter Tryd.func25, Tryd.ntmps25
  go_upto_region 1 with fail
  have I0 : MI W b l fm p 40 X Y P D 3 C _ := MI.new
  have HS0 := Lib.hid (HS.out _ (gb_trans (gb_trans (World.grownBy_alloc W (.cells #[.pointer (some ⟨b, 0, none⟩), .int .i64 fm, .int .i64 (p : Nat)] 58) none) (World.grownBy_alloc (W.alloc (.cells #[.pointer (some ⟨b, 0, none⟩), .int .i64 fm, .int .i64 (p : Nat)] 58)) (.cells #[.int .i64 40, .int .i64 X, .int .i64 Y, .int .i64 P, .int .i64 D, .int .i64 3, .int .i64 C] 62) none)) (gb_trans (World.grownBy_alloc _ (.cells #[.int .i64 0, .int .i64 0, .int .i64 0, .int .i64 0, .int .i64 0, .int .i64 0, .int .i64 0, .int .i64 0] 29) none) (World.grownBy_alloc _ (.cells #[.int .i64 0, .int .i64 0, .int .i64 0] 33) none))))
  generalize ((((W.alloc (.cells #[.pointer (some ⟨b, 0, none⟩), .int .i64 fm, .int .i64 (p : Nat)] 58)).alloc (.cells #[.int .i64 40, .int .i64 X, .int .i64 Y, .int .i64 P, .int .i64 D, .int .i64 3, .int .i64 C] 62)).alloc (.cells #[.int .i64 0, .int .i64 0, .int .i64 0, .int .i64 0, .int .i64 0, .int .i64 0, .int .i64 0, .int .i64 0] 29)).alloc (.cells #[.int .i64 0, .int .i64 0, .int .i64 0] 33)) = w0 at I0 HS0 ⊢
  clear HS
  have c0 := blk_cell I0.r 0
  have c1 := blk_cell I0.r 1
  have c2 := blk_cell I0.r 2
  have n0 := blk_cell I0.n 0
  have n1 := blk_cell I0.n 1
  have n2 := blk_cell I0.n 2
  have n3 := blk_cell I0.n 3
  have n4 := blk_cell I0.n 4
  have n5 := blk_cell I0.n 5
  have n6 := blk_cell I0.n 6
  have s0 := blk_cell I0.s 0
  have t0 := blk_free I0.s 0
  have s1 := blk_cell I0.s 1
  have t1 := blk_free I0.s 1
  have s2 := blk_cell I0.s 2
  have t2 := blk_free I0.s 2
  have s3 := blk_cell I0.s 3
  have t3 := blk_free I0.s 3
  have s4 := blk_cell I0.s 4
  have t4 := blk_free I0.s 4
  have s5 := blk_cell I0.s 5
  have t5 := blk_free I0.s 5
  have s6 := blk_cell I0.s 6
  have t6 := blk_free I0.s 6
  have s7 := blk_cell I0.s 7
  have t7 := blk_free I0.s 7
  have d0 := blk_cell I0.f 0
  have e0 := blk_free I0.f 0
  have d1 := blk_cell I0.f 1
  have e1 := blk_free I0.f 1
  have d2 := blk_cell I0.f 2
  have e2 := blk_free I0.f 2
  have l0 := blk_lt I0.r
  have l1 := blk_lt I0.n
  have l2 := blk_lt I0.s
  have l3 := blk_lt I0.f
  simp only [List.getElem?_toArray, List.getElem?_cons_succ, List.getElem?_cons_zero] at c0 c1 c2 n0 n1 n2 n3 n4 n5 n6 s0 s1 s2 s3 s4 s5 s6 s7 d0 d1 d2
  have HI0 := Lib.hid I0
  clear I0
  go_wp2_with fail
  refine (KT.out _ HS0.out).mono ?_
  rintro e w1 ⟨rfl, S9, t9⟩
  have I1 := HI0.out.turned hblt hllt t9
  have HS1 := Lib.hid S9
  clear S9 t9 HI0 HS0 KT
  clear c0 c1 c2 n0 n1 n2 n3 n4 n5 n6 s0 t0 s1 t1 s2 t2 s3 t3 s4 t4 s5 t5 s6 t6 s7 t7 d0 d1 d2 e0 e1 e2 l0 l1 l2 l3
  have c0 := blk_cell I1.r 0
  have c1 := blk_cell I1.r 1
  have c2 := blk_cell I1.r 2
  have n0 := blk_cell I1.n 0
  have n1 := blk_cell I1.n 1
  have n2 := blk_cell I1.n 2
  have n3 := blk_cell I1.n 3
  have n4 := blk_cell I1.n 4
  have n5 := blk_cell I1.n 5
  have n6 := blk_cell I1.n 6
  have s0 := blk_cell I1.s 0
  have t0 := blk_free I1.s 0
  have s1 := blk_cell I1.s 1
  have t1 := blk_free I1.s 1
  have s2 := blk_cell I1.s 2
  have t2 := blk_free I1.s 2
  have s3 := blk_cell I1.s 3
  have t3 := blk_free I1.s 3
  have s4 := blk_cell I1.s 4
  have t4 := blk_free I1.s 4
  have s5 := blk_cell I1.s 5
  have t5 := blk_free I1.s 5
  have s6 := blk_cell I1.s 6
  have t6 := blk_free I1.s 6
  have s7 := blk_cell I1.s 7
  have t7 := blk_free I1.s 7
  have d0 := blk_cell I1.f 0
  have e0 := blk_free I1.f 0
  have d1 := blk_cell I1.f 1
  have e1 := blk_free I1.f 1
  have d2 := blk_cell I1.f 2
  have e2 := blk_free I1.f 2
  have l0 := blk_lt I1.r
  have l1 := blk_lt I1.n
  have l2 := blk_lt I1.s
  have l3 := blk_lt I1.f
  simp only [List.getElem?_toArray, List.getElem?_cons_succ, List.getElem?_cons_zero] at c0 c1 c2 n0 n1 n2 n3 n4 n5 n6 s0 s1 s2 s3 s4 s5 s6 s7 d0 d1 d2
  have HI1 := Lib.hid I1
  clear I1
  go_upto_region 13 with fail
  obtain ⟨lb, hlb⟩ : ∃ k, w1.heap.size = k := ⟨_, rfl⟩
  rw [hlb] at l3 ⊢
  refine abs_w (R := MK W b l s p (q + 12) f t fm (x.work 1).1 40 X Y P D C lb #[.int .i64 0, .int .i64 0, .int .i64 0, .int .i64 0]) ⟨HI1.out.gb hblt hllt (World.grownBy_alloc w1 (.cells #[.int .i64 0, .int .i64 0, .int .i64 0, .int .i64 0] 112) none), by rw [← hlb]; exact blk_at, l3, HS1.out.grown (World.grownBy_alloc w1 (.cells #[.int .i64 0, .int .i64 0, .int .i64 0, .int .i64 0] 112) none), hblt, hllt⟩ (fun w2 I2 => ?_)
  clear hlb HI1 HS1
  clear c0 c1 c2 n0 n1 n2 n3 n4 n5 n6 s0 t0 s1 t1 s2 t2 s3 t3 s4 t4 s5 t5 s6 t6 s7 t7 d0 d1 d2 e0 e1 e2 l0 l1 l2 l3
  have HI2 := Lib.hid I2
  clear I2
  go_wp2_with fail
  go_loopg [53] 3 (fun mq iv wr => ∃ k : Nat, k ≤ 3 ∧ mq = 3 - k ∧ iv = .int .i64 k ∧ MK W b l s p (q + 12) f t fm (x.work 1).1 40 X Y P D C lb (lm m0 m1 m2 0 k) wr)
  case atStart => exact ⟨0, by omega, rfl, rfl, HI2.out⟩
  case round =>
    obtain ⟨k, hk, rfl, rfl, J⟩ := hrel
    clear HI2
    obtain rfl | rfl | rfl | rfl : k = 0 ∨ k = 1 ∨ k = 2 ∨ k = 3 := by omega
    · replace J := J.as (L' := #[.int .i64 0, .int .i64 0, .int .i64 0, .int .i64 0]) (by rfl)
      have a0 := blk_cell J.a 0
      have b0 := blk_free J.a 0
      have a1 := blk_cell J.a 1
      have b1 := blk_free J.a 1
      have a2 := blk_cell J.a 2
      have b2 := blk_free J.a 2
      have a3 := blk_cell J.a 3
      have b3 := blk_free J.a 3
      have l4 := blk_lt J.a
      have l5 := J.lt
      simp only [List.getElem?_toArray, List.getElem?_cons_succ, List.getElem?_cons_zero] at a0 a1 a2 a3
      have HJ := Lib.hid J
      clear J
      go_wp2_with fail
      refine (K0.out _).mono ?_
      rintro e w' ⟨rfl, rfl⟩
      go_wp2
      go_roundg (3 - 1)
      case measure => omega
      case rel => exact ⟨1, by omega, rfl, by first | rfl | go_num, (HJ.out.set 0 _).as (by rfl)⟩
    · replace J := J.as (L' := #[.int .i64 m0, .int .i64 0, .int .i64 0, .int .i64 0]) (by rfl)
      have a0 := blk_cell J.a 0
      have b0 := blk_free J.a 0
      have a1 := blk_cell J.a 1
      have b1 := blk_free J.a 1
      have a2 := blk_cell J.a 2
      have b2 := blk_free J.a 2
      have a3 := blk_cell J.a 3
      have b3 := blk_free J.a 3
      have l4 := blk_lt J.a
      have l5 := J.lt
      simp only [List.getElem?_toArray, List.getElem?_cons_succ, List.getElem?_cons_zero] at a0 a1 a2 a3
      have HJ := Lib.hid J
      clear J
      go_wp2_with fail
      refine (K1.out _).mono ?_
      rintro e w' ⟨rfl, rfl⟩
      go_wp2
      go_roundg (3 - 2)
      case measure => omega
      case rel => exact ⟨2, by omega, rfl, by first | rfl | go_num, (HJ.out.set 1 _).as (by rfl)⟩
    · replace J := J.as (L' := #[.int .i64 m0, .int .i64 m1, .int .i64 0, .int .i64 0]) (by rfl)
      have a0 := blk_cell J.a 0
      have b0 := blk_free J.a 0
      have a1 := blk_cell J.a 1
      have b1 := blk_free J.a 1
      have a2 := blk_cell J.a 2
      have b2 := blk_free J.a 2
      have a3 := blk_cell J.a 3
      have b3 := blk_free J.a 3
      have l4 := blk_lt J.a
      have l5 := J.lt
      simp only [List.getElem?_toArray, List.getElem?_cons_succ, List.getElem?_cons_zero] at a0 a1 a2 a3
      have HJ := Lib.hid J
      clear J
      go_wp2_with fail
      refine (K2.out _).mono ?_
      rintro e w' ⟨rfl, rfl⟩
      go_wp2
      go_roundg (3 - 3)
      case measure => omega
      case rel => exact ⟨3, by omega, rfl, by first | rfl | go_num, (HJ.out.set 2 _).as (by rfl)⟩
    · replace J := J.as (L' := #[.int .i64 m0, .int .i64 m1, .int .i64 m2, .int .i64 0]) (by rfl)
      have a0 := blk_cell J.a 0
      have b0 := blk_free J.a 0
      have a1 := blk_cell J.a 1
      have b1 := blk_free J.a 1
      have a2 := blk_cell J.a 2
      have b2 := blk_free J.a 2
      have a3 := blk_cell J.a 3
      have b3 := blk_free J.a 3
      have l4 := blk_lt J.a
      have l5 := J.lt
      simp only [List.getElem?_toArray, List.getElem?_cons_succ, List.getElem?_cons_zero] at a0 a1 a2 a3
      have JM := J.mi
      have c0 := blk_cell JM.r 0
      have c1 := blk_cell JM.r 1
      have c2 := blk_cell JM.r 2
      have n0 := blk_cell JM.n 0
      have n1 := blk_cell JM.n 1
      have n2 := blk_cell JM.n 2
      have n3 := blk_cell JM.n 3
      have n4 := blk_cell JM.n 4
      have n5 := blk_cell JM.n 5
      have n6 := blk_cell JM.n 6
      have s0 := blk_cell JM.s 0
      have t0 := blk_free JM.s 0
      have s1 := blk_cell JM.s 1
      have t1 := blk_free JM.s 1
      have s2 := blk_cell JM.s 2
      have t2 := blk_free JM.s 2
      have s3 := blk_cell JM.s 3
      have t3 := blk_free JM.s 3
      have s4 := blk_cell JM.s 4
      have t4 := blk_free JM.s 4
      have s5 := blk_cell JM.s 5
      have t5 := blk_free JM.s 5
      have s6 := blk_cell JM.s 6
      have t6 := blk_free JM.s 6
      have s7 := blk_cell JM.s 7
      have t7 := blk_free JM.s 7
      have d0 := blk_cell JM.f 0
      have e0 := blk_free JM.f 0
      have d1 := blk_cell JM.f 1
      have e1 := blk_free JM.f 1
      have d2 := blk_cell JM.f 2
      have e2 := blk_free JM.f 2
      have l0 := blk_lt JM.r
      have l1 := blk_lt JM.n
      have l2 := blk_lt JM.s
      have l3 := blk_lt JM.f
      simp only [List.getElem?_toArray, List.getElem?_cons_succ, List.getElem?_cons_zero] at c0 c1 c2 n0 n1 n2 n3 n4 n5 n6 s0 s1 s2 s3 s4 s5 s6 s7 d0 d1 d2
      have HJN := Lib.hid JM
      clear JM
      have HJ := Lib.hid J
      clear J HJN
      go_wp2_with fail
      refine (HF.out _ (HJ.out.tab hTT.out.1 hTT.out.2.1 hTT.out.2.2)).mono ?_
      rintro e w5 ⟨rfl, g5⟩
      have J5 := HJ.out.gb (gb_trans g5 (World.grownBy_alloc w5 (.cells #[.int .i64 v0, .int .i64 v1, .int .i64 v2, .int .i64 v3, .int .i64 v4, .int .i64 v5, .int .i64 v6, .int .i64 v7] 29) none))
      have hz5 := blk_lt (HJ.out.gb g5).mi.f
      have A5 : (w5.alloc (.cells #[.int .i64 v0, .int .i64 v1, .int .i64 v2, .int .i64 v3, .int .i64 v4, .int .i64 v5, .int .i64 v6, .int .i64 v7] 29)).heap[w5.heap.size]? = some (.cells #[.int .i64 v0, .int .i64 v1, .int .i64 v2, .int .i64 v3, .int .i64 v4, .int .i64 v5, .int .i64 v6, .int .i64 v7] 29 (0, 0)) := blk_at
      clear g5 HJ
      clear c0 c1 c2 n0 n1 n2 n3 n4 n5 n6 s0 t0 s1 t1 s2 t2 s3 t3 s4 t4 s5 t5 s6 t6 s7 t7 d0 d1 d2 e0 e1 e2 l0 l1 l2 l3 a0 a1 a2 a3 b0 b1 b2 b3 l4 l5
      go_upto_region 19 with fail
      obtain ⟨vb, hvb⟩ : ∃ k, w5.heap.size = k := ⟨_, rfl⟩
      rw [hvb] at A5 hz5 ⊢
      generalize w5.alloc (.cells #[.int .i64 v0, .int .i64 v1, .int .i64 v2, .int .i64 v3, .int .i64 v4, .int .i64 v5, .int .i64 v6, .int .i64 v7] 29) = w6 at A5 J5 ⊢
      clear hvb
      have g0 : ¬ vb = W.heap.size + 1 + 1 := by omega
      have g1 : ¬ W.heap.size + 1 + 1 = vb := by omega
      have g2 : ¬ vb = W.heap.size + 1 + 1 + 1 := by omega
      have g3 : ¬ W.heap.size + 1 + 1 + 1 = vb := by omega
      have JM := J5.mi
      have c0 := blk_cell JM.r 0
      have c1 := blk_cell JM.r 1
      have c2 := blk_cell JM.r 2
      have n0 := blk_cell JM.n 0
      have n1 := blk_cell JM.n 1
      have n2 := blk_cell JM.n 2
      have n3 := blk_cell JM.n 3
      have n4 := blk_cell JM.n 4
      have n5 := blk_cell JM.n 5
      have n6 := blk_cell JM.n 6
      have s0 := blk_cell JM.s 0
      have t0 := blk_free JM.s 0
      have s1 := blk_cell JM.s 1
      have t1 := blk_free JM.s 1
      have s2 := blk_cell JM.s 2
      have t2 := blk_free JM.s 2
      have s3 := blk_cell JM.s 3
      have t3 := blk_free JM.s 3
      have s4 := blk_cell JM.s 4
      have t4 := blk_free JM.s 4
      have s5 := blk_cell JM.s 5
      have t5 := blk_free JM.s 5
      have s6 := blk_cell JM.s 6
      have t6 := blk_free JM.s 6
      have s7 := blk_cell JM.s 7
      have t7 := blk_free JM.s 7
      have d0 := blk_cell JM.f 0
      have e0 := blk_free JM.f 0
      have d1 := blk_cell JM.f 1
      have e1 := blk_free JM.f 1
      have d2 := blk_cell JM.f 2
      have e2 := blk_free JM.f 2
      have l0 := blk_lt JM.r
      have l1 := blk_lt JM.n
      have l2 := blk_lt JM.s
      have l3 := blk_lt JM.f
      simp only [List.getElem?_toArray, List.getElem?_cons_succ, List.getElem?_cons_zero] at c0 c1 c2 n0 n1 n2 n3 n4 n5 n6 s0 s1 s2 s3 s4 s5 s6 s7 d0 d1 d2
      have HJM := Lib.hid JM
      clear JM
      have a0 := blk_cell A5 0
      have a1 := blk_cell A5 1
      have a2 := blk_cell A5 2
      have a3 := blk_cell A5 3
      have a4 := blk_cell A5 4
      have a5 := blk_cell A5 5
      have a6 := blk_cell A5 6
      have a7 := blk_cell A5 7
      have l9 := blk_lt A5
      simp only [List.getElem?_toArray, List.getElem?_cons_succ, List.getElem?_cons_zero] at a0 a1 a2 a3 a4 a5 a6 a7
      have HJ5 := Lib.hid J5
      clear J5 A5
      go_upto_region 21 with fail
      try go_region
      go_wp2
      refine bodyPost_ret (v := .tuple #[.agg #[.int .i64 v0, .int .i64 v1, .int .i64 v2, .int .i64 v3, .int .i64 v4, .int .i64 v5, .int .i64 v6, .int .i64 v7], .agg #[.int .i64 0, .int .i64 0, .int .i64 0]]) (by simp only [results, Tryd.results25]; go_simp) rfl ⟨rfl, ?_, ?_⟩
      · repeat' first | with_reducible exact HJ5.out.sl | with_reducible refine SL.st ?_ (by omega) (by omega) | with_reducible refine SL.grown ?_ (gb_drew _ _)
      · repeat' first | with_reducible exact HJ5.out.mi.t | with_reducible refine tn_own1 ?_ (by omega) | with_reducible refine Tn.dr ?_

end Go.Proofs.YtikjfmpdfeaooaaDoor.Dh

/- Layer 20: masks that are told (40, bad; written by wip/gen/dhm.py). -/
namespace Go.Proofs.YtikjfmpdfeaooaaDoor.Dh
open Go.ChangeShapes Go.WideShapes Go.ChangeAt Go.RowKit
open Go.Proofs.YtikjfmpdfeaooaaDoor.Le Go.Proofs.YtikjfmpdfeaooaaDoor.Sr Go.Proofs.YtikjfmpdfeaooaaDoor.Ma
set_option linter.unusedVariables false

set_option maxRecDepth 100000 in
set_option maxHeartbeats 8000000 in
theorem cmasks_40_bad (b l : Nat) (s z : ByteArray) (p q f t : Nat) (fm : Int) (X Y P D C : Int) (x : St) (W : World) (h : SL b l s q f t x W) (hT : Tab W) (hgb : 0 ≠ b) (hgl : 0 ≠ l) (ok : x.Ok) (rd : rdB x q t 12 = true) (hz : z.size = 40) (zb : ByteArray) (hzb : s.extract q (q + 12) = zb) (tt : Nat) (c : Int) (ht : tt < 4) (hc : (c != 0) = true) (hp : p ≤ 4611686018427387904) (m0 m1 m2 m3 : Int) (e0 : ((w4 (z ++ zb) 40 : Nat) : Int) = m0) (e1 : ((w4 (z ++ zb) 44 : Nat) : Int) = m1) (e2 : ((w4 (z ++ zb) 48 : Nat) : Int) = m2) (e3 : 0 = m3) (KF : FourIs (fun k => if k = 0 then m0 else if k = 1 then m1 else if k = 2 then m2 else m3) D #[.int .i64 0, .int .i64 0, .int .i64 0, .int .i64 0, .int .i64 0, .int .i64 0, .int .i64 0, .int .i64 0] (tt : Nat) c) :
    Calls Tryd.prog 25 #[.agg #[.pointer (some ⟨b, 0, none⟩), .int .i64 fm, .int .i64 (p : Nat)], .string z, .agg #[.int .i64 40, .int .i64 X, .int .i64 Y, .int .i64 P, .int .i64 D, .int .i64 3, .int .i64 C]] W
      fun e w' => e = .returned (.tuple #[.agg #[.int .i64 0, .int .i64 0, .int .i64 0, .int .i64 0, .int .i64 0, .int .i64 0, .int .i64 0, .int .i64 0], flV 2 fm ((p : Int) + (40 + 4 * (tt : Int)))]) ∧ SL b l s (q + 12) f t (x.work 1).1 w' ∧ Tn W w' [b, l] := by
  have hblt := h.so.lt
  have hllt := h.led.lt
  have hts := h.so.ts
  have hrd := (rd_of rd).2.2
  have hzs : zb.size = 12 := by rw [← hzb, ByteArray.size_extract]; omega
  have hsz : ¬ 9223372036854775807 < z.size + zb.size := by omega
  have hzz : (z ++ zb).size = 52 := by rw [ByteArray.size_append]; omega
  have KT := Lib.hid (show ∀ u, SL b l s q f t x u → Calls Tryd.prog 42 #[.pointer (some ⟨b, 0, none⟩), .int .i64 12] u fun e w' => e = .returned (.tuple #[.string zb, .bool true]) ∧ SL b l s (q + 12) f t (x.work 1).1 w' ∧ Tn u w' [b, l] from fun u hu => by rw [← hzb]; exact (take_yes b l s _ f t _ _ u hu.so hu.led ok rd).mono (fun e w' ⟨he, ⟨h1, h2⟩, g⟩ => ⟨he, ⟨h1, h2⟩, g⟩))
  have K0 := (show ∀ u, Calls Tryd.prog 44 #[.string (z ++ zb), .int .i64 40, .int .i64 4] u fun e w' => e = .returned (.int .i64 ((w4 (z ++ zb) 40 : Nat) : Int)) ∧ u = w' from fun u => n32_calls (z ++ zb) 40 u (by omega) (by omega))
  simp only [e0] at K0
  have K0 := Lib.hid K0
  have K1 := (show ∀ u, Calls Tryd.prog 44 #[.string (z ++ zb), .int .i64 44, .int .i64 4] u fun e w' => e = .returned (.int .i64 ((w4 (z ++ zb) 44 : Nat) : Int)) ∧ u = w' from fun u => n32_calls (z ++ zb) 44 u (by omega) (by omega))
  simp only [e1] at K1
  have K1 := Lib.hid K1
  have K2 := (show ∀ u, Calls Tryd.prog 44 #[.string (z ++ zb), .int .i64 48, .int .i64 4] u fun e w' => e = .returned (.int .i64 ((w4 (z ++ zb) 48 : Nat) : Int)) ∧ u = w' from fun u => n32_calls (z ++ zb) 48 u (by omega) (by omega))
  simp only [e2] at K2
  have K2 := Lib.hid K2
  subst e3
  have HF := Lib.hid (show ∀ u, Tab u → Calls Tryd.prog 53 #[.int .i64 m0, .int .i64 m1, .int .i64 m2, .int .i64 0, .int .i64 D] u fun e w' => e = .returned (.tuple #[.agg #[.int .i64 0, .int .i64 0, .int .i64 0, .int .i64 0, .int .i64 0, .int .i64 0, .int .i64 0, .int .i64 0], .int .i64 (tt : Nat), .int .i64 c]) ∧ u.grownBy w' none from fun u hu => KF.1 u hu hu.lt)
  have HS := Lib.hid (fun u (g : W.grownBy u none) => h.grown g)
  have hTT := Lib.hid (And.intro hT (And.intro hgb hgl))
  obtain ⟨pa, hpa⟩ : ∃ a : Int, 40 + 4 * (tt : Int) = a := ⟨_, rfl⟩
  have wt : IntKind.i64.wrap ((tt : Int) * 4) = (tt : Int) * 4 := IntWalk.i64_in _ (by omega)
  have wt2 : IntKind.i64.wrap (40 + (tt : Int) * 4) = pa := by rw [IntWalk.i64_in _ (by omega)]; omega
  have KB := (show ∀ u, Calls Tryd.prog 24 #[.agg #[.pointer (some ⟨b, 0, none⟩), .int .i64 fm, .int .i64 (p : Nat)], .int .i64 2, .int .i64 pa] u fun e w' => e = .returned (flV 2 fm ((p : Int) + pa)) ∧ u.grownBy w' none from fun u => rfault_calls b fm 2 pa p u (by omega) (by omega))
  obtain ⟨fa0, hfa⟩ : ∃ a : Int, (p : Int) + (40 + 4 * (tt : Int)) = a := ⟨_, rfl⟩
  rw [hpa] at hfa
  rw [hpa, hfa]
  rw [hfa] at KB
  have KB := Lib.hid KB
  clear hpa hfa ht hp
  unfold flV at KB
  unfold flV
  clear h hT hgb hgl KF hts e0 e1 e2 ok rd hz hzb hrd hzs hzz
  go_enter Tryd.func25, Tryd.ntmps25
  go_upto_region 1 with fail
  have I0 : MI W b l fm p 40 X Y P D 3 C _ := MI.new
  have HS0 := Lib.hid (HS.out _ (gb_trans (gb_trans (World.grownBy_alloc W (.cells #[.pointer (some ⟨b, 0, none⟩), .int .i64 fm, .int .i64 (p : Nat)] 58) none) (World.grownBy_alloc (W.alloc (.cells #[.pointer (some ⟨b, 0, none⟩), .int .i64 fm, .int .i64 (p : Nat)] 58)) (.cells #[.int .i64 40, .int .i64 X, .int .i64 Y, .int .i64 P, .int .i64 D, .int .i64 3, .int .i64 C] 62) none)) (gb_trans (World.grownBy_alloc _ (.cells #[.int .i64 0, .int .i64 0, .int .i64 0, .int .i64 0, .int .i64 0, .int .i64 0, .int .i64 0, .int .i64 0] 29) none) (World.grownBy_alloc _ (.cells #[.int .i64 0, .int .i64 0, .int .i64 0] 33) none))))
  generalize ((((W.alloc (.cells #[.pointer (some ⟨b, 0, none⟩), .int .i64 fm, .int .i64 (p : Nat)] 58)).alloc (.cells #[.int .i64 40, .int .i64 X, .int .i64 Y, .int .i64 P, .int .i64 D, .int .i64 3, .int .i64 C] 62)).alloc (.cells #[.int .i64 0, .int .i64 0, .int .i64 0, .int .i64 0, .int .i64 0, .int .i64 0, .int .i64 0, .int .i64 0] 29)).alloc (.cells #[.int .i64 0, .int .i64 0, .int .i64 0] 33)) = w0 at I0 HS0 ⊢
  clear HS
  have c0 := blk_cell I0.r 0
  have c1 := blk_cell I0.r 1
  have c2 := blk_cell I0.r 2
  have n0 := blk_cell I0.n 0
  have n1 := blk_cell I0.n 1
  have n2 := blk_cell I0.n 2
  have n3 := blk_cell I0.n 3
  have n4 := blk_cell I0.n 4
  have n5 := blk_cell I0.n 5
  have n6 := blk_cell I0.n 6
  have s0 := blk_cell I0.s 0
  have t0 := blk_free I0.s 0
  have s1 := blk_cell I0.s 1
  have t1 := blk_free I0.s 1
  have s2 := blk_cell I0.s 2
  have t2 := blk_free I0.s 2
  have s3 := blk_cell I0.s 3
  have t3 := blk_free I0.s 3
  have s4 := blk_cell I0.s 4
  have t4 := blk_free I0.s 4
  have s5 := blk_cell I0.s 5
  have t5 := blk_free I0.s 5
  have s6 := blk_cell I0.s 6
  have t6 := blk_free I0.s 6
  have s7 := blk_cell I0.s 7
  have t7 := blk_free I0.s 7
  have d0 := blk_cell I0.f 0
  have e0 := blk_free I0.f 0
  have d1 := blk_cell I0.f 1
  have e1 := blk_free I0.f 1
  have d2 := blk_cell I0.f 2
  have e2 := blk_free I0.f 2
  have l0 := blk_lt I0.r
  have l1 := blk_lt I0.n
  have l2 := blk_lt I0.s
  have l3 := blk_lt I0.f
  simp only [List.getElem?_toArray, List.getElem?_cons_succ, List.getElem?_cons_zero] at c0 c1 c2 n0 n1 n2 n3 n4 n5 n6 s0 s1 s2 s3 s4 s5 s6 s7 d0 d1 d2
  have HI0 := Lib.hid I0
  clear I0
  go_wp2_with fail
  refine (KT.out _ HS0.out).mono ?_
  rintro e w1 ⟨rfl, S9, t9⟩
  have I1 := HI0.out.turned hblt hllt t9
  have HS1 := Lib.hid S9
  clear S9 t9 HI0 HS0 KT
  clear c0 c1 c2 n0 n1 n2 n3 n4 n5 n6 s0 t0 s1 t1 s2 t2 s3 t3 s4 t4 s5 t5 s6 t6 s7 t7 d0 d1 d2 e0 e1 e2 l0 l1 l2 l3
  have c0 := blk_cell I1.r 0
  have c1 := blk_cell I1.r 1
  have c2 := blk_cell I1.r 2
  have n0 := blk_cell I1.n 0
  have n1 := blk_cell I1.n 1
  have n2 := blk_cell I1.n 2
  have n3 := blk_cell I1.n 3
  have n4 := blk_cell I1.n 4
  have n5 := blk_cell I1.n 5
  have n6 := blk_cell I1.n 6
  have s0 := blk_cell I1.s 0
  have t0 := blk_free I1.s 0
  have s1 := blk_cell I1.s 1
  have t1 := blk_free I1.s 1
  have s2 := blk_cell I1.s 2
  have t2 := blk_free I1.s 2
  have s3 := blk_cell I1.s 3
  have t3 := blk_free I1.s 3
  have s4 := blk_cell I1.s 4
  have t4 := blk_free I1.s 4
  have s5 := blk_cell I1.s 5
  have t5 := blk_free I1.s 5
  have s6 := blk_cell I1.s 6
  have t6 := blk_free I1.s 6
  have s7 := blk_cell I1.s 7
  have t7 := blk_free I1.s 7
  have d0 := blk_cell I1.f 0
  have e0 := blk_free I1.f 0
  have d1 := blk_cell I1.f 1
  have e1 := blk_free I1.f 1
  have d2 := blk_cell I1.f 2
  have e2 := blk_free I1.f 2
  have l0 := blk_lt I1.r
  have l1 := blk_lt I1.n
  have l2 := blk_lt I1.s
  have l3 := blk_lt I1.f
  simp only [List.getElem?_toArray, List.getElem?_cons_succ, List.getElem?_cons_zero] at c0 c1 c2 n0 n1 n2 n3 n4 n5 n6 s0 s1 s2 s3 s4 s5 s6 s7 d0 d1 d2
  have HI1 := Lib.hid I1
  clear I1
  go_upto_region 13 with fail
  obtain ⟨lb, hlb⟩ : ∃ k, w1.heap.size = k := ⟨_, rfl⟩
  rw [hlb] at l3 ⊢
  refine abs_w (R := MK W b l s p (q + 12) f t fm (x.work 1).1 40 X Y P D C lb #[.int .i64 0, .int .i64 0, .int .i64 0, .int .i64 0]) ⟨HI1.out.gb hblt hllt (World.grownBy_alloc w1 (.cells #[.int .i64 0, .int .i64 0, .int .i64 0, .int .i64 0] 112) none), by rw [← hlb]; exact blk_at, l3, HS1.out.grown (World.grownBy_alloc w1 (.cells #[.int .i64 0, .int .i64 0, .int .i64 0, .int .i64 0] 112) none), hblt, hllt⟩ (fun w2 I2 => ?_)
  clear hlb HI1 HS1
  clear c0 c1 c2 n0 n1 n2 n3 n4 n5 n6 s0 t0 s1 t1 s2 t2 s3 t3 s4 t4 s5 t5 s6 t6 s7 t7 d0 d1 d2 e0 e1 e2 l0 l1 l2 l3
  have HI2 := Lib.hid I2
  clear I2
  go_wp2_with fail
  go_loopg [53] 3 (fun mq iv wr => ∃ k : Nat, k ≤ 3 ∧ mq = 3 - k ∧ iv = .int .i64 k ∧ MK W b l s p (q + 12) f t fm (x.work 1).1 40 X Y P D C lb (lm m0 m1 m2 0 k) wr)
  case atStart => exact ⟨0, by omega, rfl, rfl, HI2.out⟩
  case round =>
    obtain ⟨k, hk, rfl, rfl, J⟩ := hrel
    clear HI2
    obtain rfl | rfl | rfl | rfl : k = 0 ∨ k = 1 ∨ k = 2 ∨ k = 3 := by omega
    · replace J := J.as (L' := #[.int .i64 0, .int .i64 0, .int .i64 0, .int .i64 0]) (by rfl)
      have a0 := blk_cell J.a 0
      have b0 := blk_free J.a 0
      have a1 := blk_cell J.a 1
      have b1 := blk_free J.a 1
      have a2 := blk_cell J.a 2
      have b2 := blk_free J.a 2
      have a3 := blk_cell J.a 3
      have b3 := blk_free J.a 3
      have l4 := blk_lt J.a
      have l5 := J.lt
      simp only [List.getElem?_toArray, List.getElem?_cons_succ, List.getElem?_cons_zero] at a0 a1 a2 a3
      have HJ := Lib.hid J
      clear J
      go_wp2_with fail
      refine (K0.out _).mono ?_
      rintro e w' ⟨rfl, rfl⟩
      go_wp2
      go_roundg (3 - 1)
      case measure => omega
      case rel => exact ⟨1, by omega, rfl, by first | rfl | go_num, (HJ.out.set 0 _).as (by rfl)⟩
    · replace J := J.as (L' := #[.int .i64 m0, .int .i64 0, .int .i64 0, .int .i64 0]) (by rfl)
      have a0 := blk_cell J.a 0
      have b0 := blk_free J.a 0
      have a1 := blk_cell J.a 1
      have b1 := blk_free J.a 1
      have a2 := blk_cell J.a 2
      have b2 := blk_free J.a 2
      have a3 := blk_cell J.a 3
      have b3 := blk_free J.a 3
      have l4 := blk_lt J.a
      have l5 := J.lt
      simp only [List.getElem?_toArray, List.getElem?_cons_succ, List.getElem?_cons_zero] at a0 a1 a2 a3
      have HJ := Lib.hid J
      clear J
      go_wp2_with fail
      refine (K1.out _).mono ?_
      rintro e w' ⟨rfl, rfl⟩
      go_wp2
      go_roundg (3 - 2)
      case measure => omega
      case rel => exact ⟨2, by omega, rfl, by first | rfl | go_num, (HJ.out.set 1 _).as (by rfl)⟩
    · replace J := J.as (L' := #[.int .i64 m0, .int .i64 m1, .int .i64 0, .int .i64 0]) (by rfl)
      have a0 := blk_cell J.a 0
      have b0 := blk_free J.a 0
      have a1 := blk_cell J.a 1
      have b1 := blk_free J.a 1
      have a2 := blk_cell J.a 2
      have b2 := blk_free J.a 2
      have a3 := blk_cell J.a 3
      have b3 := blk_free J.a 3
      have l4 := blk_lt J.a
      have l5 := J.lt
      simp only [List.getElem?_toArray, List.getElem?_cons_succ, List.getElem?_cons_zero] at a0 a1 a2 a3
      have HJ := Lib.hid J
      clear J
      go_wp2_with fail
      refine (K2.out _).mono ?_
      rintro e w' ⟨rfl, rfl⟩
      go_wp2
      go_roundg (3 - 3)
      case measure => omega
      case rel => exact ⟨3, by omega, rfl, by first | rfl | go_num, (HJ.out.set 2 _).as (by rfl)⟩
    · replace J := J.as (L' := #[.int .i64 m0, .int .i64 m1, .int .i64 m2, .int .i64 0]) (by rfl)
      have a0 := blk_cell J.a 0
      have b0 := blk_free J.a 0
      have a1 := blk_cell J.a 1
      have b1 := blk_free J.a 1
      have a2 := blk_cell J.a 2
      have b2 := blk_free J.a 2
      have a3 := blk_cell J.a 3
      have b3 := blk_free J.a 3
      have l4 := blk_lt J.a
      have l5 := J.lt
      simp only [List.getElem?_toArray, List.getElem?_cons_succ, List.getElem?_cons_zero] at a0 a1 a2 a3
      have JM := J.mi
      have c0 := blk_cell JM.r 0
      have c1 := blk_cell JM.r 1
      have c2 := blk_cell JM.r 2
      have n0 := blk_cell JM.n 0
      have n1 := blk_cell JM.n 1
      have n2 := blk_cell JM.n 2
      have n3 := blk_cell JM.n 3
      have n4 := blk_cell JM.n 4
      have n5 := blk_cell JM.n 5
      have n6 := blk_cell JM.n 6
      have s0 := blk_cell JM.s 0
      have t0 := blk_free JM.s 0
      have s1 := blk_cell JM.s 1
      have t1 := blk_free JM.s 1
      have s2 := blk_cell JM.s 2
      have t2 := blk_free JM.s 2
      have s3 := blk_cell JM.s 3
      have t3 := blk_free JM.s 3
      have s4 := blk_cell JM.s 4
      have t4 := blk_free JM.s 4
      have s5 := blk_cell JM.s 5
      have t5 := blk_free JM.s 5
      have s6 := blk_cell JM.s 6
      have t6 := blk_free JM.s 6
      have s7 := blk_cell JM.s 7
      have t7 := blk_free JM.s 7
      have d0 := blk_cell JM.f 0
      have e0 := blk_free JM.f 0
      have d1 := blk_cell JM.f 1
      have e1 := blk_free JM.f 1
      have d2 := blk_cell JM.f 2
      have e2 := blk_free JM.f 2
      have l0 := blk_lt JM.r
      have l1 := blk_lt JM.n
      have l2 := blk_lt JM.s
      have l3 := blk_lt JM.f
      simp only [List.getElem?_toArray, List.getElem?_cons_succ, List.getElem?_cons_zero] at c0 c1 c2 n0 n1 n2 n3 n4 n5 n6 s0 s1 s2 s3 s4 s5 s6 s7 d0 d1 d2
      have HJN := Lib.hid JM
      clear JM
      have HJ := Lib.hid J
      clear J HJN
      go_wp2_with fail
      refine (HF.out _ (HJ.out.tab hTT.out.1 hTT.out.2.1 hTT.out.2.2)).mono ?_
      rintro e w5 ⟨rfl, g5⟩
      have J5 := HJ.out.gb (gb_trans g5 (World.grownBy_alloc w5 (.cells #[.int .i64 0, .int .i64 0, .int .i64 0, .int .i64 0, .int .i64 0, .int .i64 0, .int .i64 0, .int .i64 0] 29) none))
      have hz5 := blk_lt (HJ.out.gb g5).mi.f
      have A5 : (w5.alloc (.cells #[.int .i64 0, .int .i64 0, .int .i64 0, .int .i64 0, .int .i64 0, .int .i64 0, .int .i64 0, .int .i64 0] 29)).heap[w5.heap.size]? = some (.cells #[.int .i64 0, .int .i64 0, .int .i64 0, .int .i64 0, .int .i64 0, .int .i64 0, .int .i64 0, .int .i64 0] 29 (0, 0)) := blk_at
      clear g5 HJ
      clear c0 c1 c2 n0 n1 n2 n3 n4 n5 n6 s0 t0 s1 t1 s2 t2 s3 t3 s4 t4 s5 t5 s6 t6 s7 t7 d0 d1 d2 e0 e1 e2 l0 l1 l2 l3 a0 a1 a2 a3 b0 b1 b2 b3 l4 l5
      go_upto_region 19 with fail
      obtain ⟨vb, hvb⟩ : ∃ k, w5.heap.size = k := ⟨_, rfl⟩
      rw [hvb] at A5 hz5 ⊢
      generalize w5.alloc (.cells #[.int .i64 0, .int .i64 0, .int .i64 0, .int .i64 0, .int .i64 0, .int .i64 0, .int .i64 0, .int .i64 0] 29) = w6 at A5 J5 ⊢
      clear hvb
      have g0 : ¬ vb = W.heap.size + 1 + 1 := by omega
      have g1 : ¬ W.heap.size + 1 + 1 = vb := by omega
      have g2 : ¬ vb = W.heap.size + 1 + 1 + 1 := by omega
      have g3 : ¬ W.heap.size + 1 + 1 + 1 = vb := by omega
      have JM := J5.mi
      have c0 := blk_cell JM.r 0
      have c1 := blk_cell JM.r 1
      have c2 := blk_cell JM.r 2
      have n0 := blk_cell JM.n 0
      have n1 := blk_cell JM.n 1
      have n2 := blk_cell JM.n 2
      have n3 := blk_cell JM.n 3
      have n4 := blk_cell JM.n 4
      have n5 := blk_cell JM.n 5
      have n6 := blk_cell JM.n 6
      have s0 := blk_cell JM.s 0
      have t0 := blk_free JM.s 0
      have s1 := blk_cell JM.s 1
      have t1 := blk_free JM.s 1
      have s2 := blk_cell JM.s 2
      have t2 := blk_free JM.s 2
      have s3 := blk_cell JM.s 3
      have t3 := blk_free JM.s 3
      have s4 := blk_cell JM.s 4
      have t4 := blk_free JM.s 4
      have s5 := blk_cell JM.s 5
      have t5 := blk_free JM.s 5
      have s6 := blk_cell JM.s 6
      have t6 := blk_free JM.s 6
      have s7 := blk_cell JM.s 7
      have t7 := blk_free JM.s 7
      have d0 := blk_cell JM.f 0
      have e0 := blk_free JM.f 0
      have d1 := blk_cell JM.f 1
      have e1 := blk_free JM.f 1
      have d2 := blk_cell JM.f 2
      have e2 := blk_free JM.f 2
      have l0 := blk_lt JM.r
      have l1 := blk_lt JM.n
      have l2 := blk_lt JM.s
      have l3 := blk_lt JM.f
      simp only [List.getElem?_toArray, List.getElem?_cons_succ, List.getElem?_cons_zero] at c0 c1 c2 n0 n1 n2 n3 n4 n5 n6 s0 s1 s2 s3 s4 s5 s6 s7 d0 d1 d2
      have HJM := Lib.hid JM
      clear JM
      have HJ5 := Lib.hid J5
      clear J5 A5
      go_wp2_with fail
      refine (KB.out _).mono ?_
      rintro e w7 ⟨rfl, g7⟩
      have J7 := HJ5.out.gb g7
      clear g7 HJ5 HJM g0 g1 g2 g3 hz5
      clear c0 c1 c2 n0 n1 n2 n3 n4 n5 n6 s0 t0 s1 t1 s2 t2 s3 t3 s4 t4 s5 t5 s6 t6 s7 t7 d0 d1 d2 e0 e1 e2 l0 l1 l2 l3
      have JM7 := J7.mi
      have c0 := blk_cell JM7.r 0
      have c1 := blk_cell JM7.r 1
      have c2 := blk_cell JM7.r 2
      have n0 := blk_cell JM7.n 0
      have n1 := blk_cell JM7.n 1
      have n2 := blk_cell JM7.n 2
      have n3 := blk_cell JM7.n 3
      have n4 := blk_cell JM7.n 4
      have n5 := blk_cell JM7.n 5
      have n6 := blk_cell JM7.n 6
      have s0 := blk_cell JM7.s 0
      have t0 := blk_free JM7.s 0
      have s1 := blk_cell JM7.s 1
      have t1 := blk_free JM7.s 1
      have s2 := blk_cell JM7.s 2
      have t2 := blk_free JM7.s 2
      have s3 := blk_cell JM7.s 3
      have t3 := blk_free JM7.s 3
      have s4 := blk_cell JM7.s 4
      have t4 := blk_free JM7.s 4
      have s5 := blk_cell JM7.s 5
      have t5 := blk_free JM7.s 5
      have s6 := blk_cell JM7.s 6
      have t6 := blk_free JM7.s 6
      have s7 := blk_cell JM7.s 7
      have t7 := blk_free JM7.s 7
      have d0 := blk_cell JM7.f 0
      have e0 := blk_free JM7.f 0
      have d1 := blk_cell JM7.f 1
      have e1 := blk_free JM7.f 1
      have d2 := blk_cell JM7.f 2
      have e2 := blk_free JM7.f 2
      have l0 := blk_lt JM7.r
      have l1 := blk_lt JM7.n
      have l2 := blk_lt JM7.s
      have l3 := blk_lt JM7.f
      simp only [List.getElem?_toArray, List.getElem?_cons_succ, List.getElem?_cons_zero] at c0 c1 c2 n0 n1 n2 n3 n4 n5 n6 s0 s1 s2 s3 s4 s5 s6 s7 d0 d1 d2
      have HJM7 := Lib.hid JM7
      clear JM7
      have HJ7 := Lib.hid J7
      clear J7
      go_wp2
      refine bodyPost_ret (v := .tuple #[.agg #[.int .i64 0, .int .i64 0, .int .i64 0, .int .i64 0, .int .i64 0, .int .i64 0, .int .i64 0, .int .i64 0], .agg #[.int .i64 2, .int .i64 fm, .int .i64 fa0]]) (by simp only [results, Tryd.results25]; go_simp) rfl ⟨rfl, ?_, ?_⟩
      · repeat' first | with_reducible exact HJ7.out.sl | with_reducible refine SL.st ?_ (by omega) (by omega) | with_reducible refine SL.grown ?_ (gb_drew _ _)
      · repeat' first | with_reducible exact HJ7.out.mi.t | with_reducible refine tn_own1 ?_ (by omega) | with_reducible refine Tn.dr ?_

end Go.Proofs.YtikjfmpdfeaooaaDoor.Dh

/- Layer 20: masks that are told (52, good; written by wip/gen/dhm.py). -/
namespace Go.Proofs.YtikjfmpdfeaooaaDoor.Dh
open Go.ChangeShapes Go.WideShapes Go.ChangeAt Go.RowKit
open Go.Proofs.YtikjfmpdfeaooaaDoor.Le Go.Proofs.YtikjfmpdfeaooaaDoor.Sr Go.Proofs.YtikjfmpdfeaooaaDoor.Ma
set_option linter.unusedVariables false

set_option maxRecDepth 100000 in
set_option maxHeartbeats 8000000 in
theorem cmasks_52_good (b l : Nat) (s z : ByteArray) (p q f t : Nat) (fm : Int) (X Y P D C : Int) (x : St) (W : World) (h : SL b l s q f t x W) (hT : Tab W) (hgb : 0 ≠ b) (hgl : 0 ≠ l) (hz : z.size = 52) (v0 v1 v2 v3 v4 v5 v6 v7 : Int) (m0 m1 m2 m3 : Int) (e0 : ((w4 z 40 : Nat) : Int) = m0) (e1 : ((w4 z 44 : Nat) : Int) = m1) (e2 : ((w4 z 48 : Nat) : Int) = m2) (e3 : 0 = m3) (KF : FourIs (fun k => if k = 0 then m0 else if k = 1 then m1 else if k = 2 then m2 else m3) D #[.int .i64 v0, .int .i64 v1, .int .i64 v2, .int .i64 v3, .int .i64 v4, .int .i64 v5, .int .i64 v6, .int .i64 v7] 0 0) :
    Calls Tryd.prog 25 #[.agg #[.pointer (some ⟨b, 0, none⟩), .int .i64 fm, .int .i64 (p : Nat)], .string z, .agg #[.int .i64 52, .int .i64 X, .int .i64 Y, .int .i64 P, .int .i64 D, .int .i64 3, .int .i64 C]] W
      fun e w' => e = .returned (.tuple #[.agg #[.int .i64 v0, .int .i64 v1, .int .i64 v2, .int .i64 v3, .int .i64 v4, .int .i64 v5, .int .i64 v6, .int .i64 v7], flV 0 0 0]) ∧ SL b l s q f t x w' ∧ Tn W w' [b, l] := by
  have hblt := h.so.lt
  have hllt := h.led.lt
  have hts := h.so.ts
  have K0 := (show ∀ u, Calls Tryd.prog 44 #[.string z, .int .i64 40, .int .i64 4] u fun e w' => e = .returned (.int .i64 ((w4 z 40 : Nat) : Int)) ∧ u = w' from fun u => n32_calls z 40 u (by omega) (by omega))
  simp only [e0] at K0
  have K0 := Lib.hid K0
  have K1 := (show ∀ u, Calls Tryd.prog 44 #[.string z, .int .i64 44, .int .i64 4] u fun e w' => e = .returned (.int .i64 ((w4 z 44 : Nat) : Int)) ∧ u = w' from fun u => n32_calls z 44 u (by omega) (by omega))
  simp only [e1] at K1
  have K1 := Lib.hid K1
  have K2 := (show ∀ u, Calls Tryd.prog 44 #[.string z, .int .i64 48, .int .i64 4] u fun e w' => e = .returned (.int .i64 ((w4 z 48 : Nat) : Int)) ∧ u = w' from fun u => n32_calls z 48 u (by omega) (by omega))
  simp only [e2] at K2
  have K2 := Lib.hid K2
  subst e3
  have HF := Lib.hid (show ∀ u, Tab u → Calls Tryd.prog 53 #[.int .i64 m0, .int .i64 m1, .int .i64 m2, .int .i64 0, .int .i64 D] u fun e w' => e = .returned (.tuple #[.agg #[.int .i64 v0, .int .i64 v1, .int .i64 v2, .int .i64 v3, .int .i64 v4, .int .i64 v5, .int .i64 v6, .int .i64 v7], .int .i64 0, .int .i64 0]) ∧ u.grownBy w' none from fun u hu => KF.1 u hu hu.lt)
  have HS := Lib.hid (fun u (g : W.grownBy u none) => h.grown g)
  have hTT := Lib.hid (And.intro hT (And.intro hgb hgl))
  unfold flV
  clear h hT hgb hgl KF hts e0 e1 e2 hz
  go_enter Tryd.func25, Tryd.ntmps25
  go_upto_region 1 with fail
  have I0 : MI W b l fm p 52 X Y P D 3 C _ := MI.new
  have HS0 := Lib.hid (HS.out _ (gb_trans (gb_trans (World.grownBy_alloc W (.cells #[.pointer (some ⟨b, 0, none⟩), .int .i64 fm, .int .i64 (p : Nat)] 58) none) (World.grownBy_alloc (W.alloc (.cells #[.pointer (some ⟨b, 0, none⟩), .int .i64 fm, .int .i64 (p : Nat)] 58)) (.cells #[.int .i64 52, .int .i64 X, .int .i64 Y, .int .i64 P, .int .i64 D, .int .i64 3, .int .i64 C] 62) none)) (gb_trans (World.grownBy_alloc _ (.cells #[.int .i64 0, .int .i64 0, .int .i64 0, .int .i64 0, .int .i64 0, .int .i64 0, .int .i64 0, .int .i64 0] 29) none) (World.grownBy_alloc _ (.cells #[.int .i64 0, .int .i64 0, .int .i64 0] 33) none))))
  generalize ((((W.alloc (.cells #[.pointer (some ⟨b, 0, none⟩), .int .i64 fm, .int .i64 (p : Nat)] 58)).alloc (.cells #[.int .i64 52, .int .i64 X, .int .i64 Y, .int .i64 P, .int .i64 D, .int .i64 3, .int .i64 C] 62)).alloc (.cells #[.int .i64 0, .int .i64 0, .int .i64 0, .int .i64 0, .int .i64 0, .int .i64 0, .int .i64 0, .int .i64 0] 29)).alloc (.cells #[.int .i64 0, .int .i64 0, .int .i64 0] 33)) = w0 at I0 HS0 ⊢
  clear HS
  have c0 := blk_cell I0.r 0
  have c1 := blk_cell I0.r 1
  have c2 := blk_cell I0.r 2
  have n0 := blk_cell I0.n 0
  have n1 := blk_cell I0.n 1
  have n2 := blk_cell I0.n 2
  have n3 := blk_cell I0.n 3
  have n4 := blk_cell I0.n 4
  have n5 := blk_cell I0.n 5
  have n6 := blk_cell I0.n 6
  have s0 := blk_cell I0.s 0
  have t0 := blk_free I0.s 0
  have s1 := blk_cell I0.s 1
  have t1 := blk_free I0.s 1
  have s2 := blk_cell I0.s 2
  have t2 := blk_free I0.s 2
  have s3 := blk_cell I0.s 3
  have t3 := blk_free I0.s 3
  have s4 := blk_cell I0.s 4
  have t4 := blk_free I0.s 4
  have s5 := blk_cell I0.s 5
  have t5 := blk_free I0.s 5
  have s6 := blk_cell I0.s 6
  have t6 := blk_free I0.s 6
  have s7 := blk_cell I0.s 7
  have t7 := blk_free I0.s 7
  have d0 := blk_cell I0.f 0
  have e0 := blk_free I0.f 0
  have d1 := blk_cell I0.f 1
  have e1 := blk_free I0.f 1
  have d2 := blk_cell I0.f 2
  have e2 := blk_free I0.f 2
  have l0 := blk_lt I0.r
  have l1 := blk_lt I0.n
  have l2 := blk_lt I0.s
  have l3 := blk_lt I0.f
  simp only [List.getElem?_toArray, List.getElem?_cons_succ, List.getElem?_cons_zero] at c0 c1 c2 n0 n1 n2 n3 n4 n5 n6 s0 s1 s2 s3 s4 s5 s6 s7 d0 d1 d2
  have HI0 := Lib.hid I0
  clear I0
  go_upto_region 13 with fail
  obtain ⟨lb, hlb⟩ : ∃ k, w0.heap.size = k := ⟨_, rfl⟩
  rw [hlb] at l3 ⊢
  refine abs_w (R := MK W b l s p q f t fm x 52 X Y P D C lb #[.int .i64 0, .int .i64 0, .int .i64 0, .int .i64 0]) ⟨HI0.out.gb hblt hllt (World.grownBy_alloc w0 (.cells #[.int .i64 0, .int .i64 0, .int .i64 0, .int .i64 0] 112) none), by rw [← hlb]; exact blk_at, l3, HS0.out.grown (World.grownBy_alloc w0 (.cells #[.int .i64 0, .int .i64 0, .int .i64 0, .int .i64 0] 112) none), hblt, hllt⟩ (fun w2 I2 => ?_)
  clear hlb HI0 HS0
  clear c0 c1 c2 n0 n1 n2 n3 n4 n5 n6 s0 t0 s1 t1 s2 t2 s3 t3 s4 t4 s5 t5 s6 t6 s7 t7 d0 d1 d2 e0 e1 e2 l0 l1 l2 l3
  have HI2 := Lib.hid I2
  clear I2
  go_wp2_with fail
  go_loopg [53] 3 (fun mq iv wr => ∃ k : Nat, k ≤ 3 ∧ mq = 3 - k ∧ iv = .int .i64 k ∧ MK W b l s p q f t fm x 52 X Y P D C lb (lm m0 m1 m2 0 k) wr)
  case atStart => exact ⟨0, by omega, rfl, rfl, HI2.out⟩
  case round =>
    obtain ⟨k, hk, rfl, rfl, J⟩ := hrel
    clear HI2
    obtain rfl | rfl | rfl | rfl : k = 0 ∨ k = 1 ∨ k = 2 ∨ k = 3 := by omega
    · replace J := J.as (L' := #[.int .i64 0, .int .i64 0, .int .i64 0, .int .i64 0]) (by rfl)
      have a0 := blk_cell J.a 0
      have b0 := blk_free J.a 0
      have a1 := blk_cell J.a 1
      have b1 := blk_free J.a 1
      have a2 := blk_cell J.a 2
      have b2 := blk_free J.a 2
      have a3 := blk_cell J.a 3
      have b3 := blk_free J.a 3
      have l4 := blk_lt J.a
      have l5 := J.lt
      simp only [List.getElem?_toArray, List.getElem?_cons_succ, List.getElem?_cons_zero] at a0 a1 a2 a3
      have HJ := Lib.hid J
      clear J
      go_wp2_with fail
      refine (K0.out _).mono ?_
      rintro e w' ⟨rfl, rfl⟩
      go_wp2
      go_roundg (3 - 1)
      case measure => omega
      case rel => exact ⟨1, by omega, rfl, by first | rfl | go_num, (HJ.out.set 0 _).as (by rfl)⟩
    · replace J := J.as (L' := #[.int .i64 m0, .int .i64 0, .int .i64 0, .int .i64 0]) (by rfl)
      have a0 := blk_cell J.a 0
      have b0 := blk_free J.a 0
      have a1 := blk_cell J.a 1
      have b1 := blk_free J.a 1
      have a2 := blk_cell J.a 2
      have b2 := blk_free J.a 2
      have a3 := blk_cell J.a 3
      have b3 := blk_free J.a 3
      have l4 := blk_lt J.a
      have l5 := J.lt
      simp only [List.getElem?_toArray, List.getElem?_cons_succ, List.getElem?_cons_zero] at a0 a1 a2 a3
      have HJ := Lib.hid J
      clear J
      go_wp2_with fail
      refine (K1.out _).mono ?_
      rintro e w' ⟨rfl, rfl⟩
      go_wp2
      go_roundg (3 - 2)
      case measure => omega
      case rel => exact ⟨2, by omega, rfl, by first | rfl | go_num, (HJ.out.set 1 _).as (by rfl)⟩
    · replace J := J.as (L' := #[.int .i64 m0, .int .i64 m1, .int .i64 0, .int .i64 0]) (by rfl)
      have a0 := blk_cell J.a 0
      have b0 := blk_free J.a 0
      have a1 := blk_cell J.a 1
      have b1 := blk_free J.a 1
      have a2 := blk_cell J.a 2
      have b2 := blk_free J.a 2
      have a3 := blk_cell J.a 3
      have b3 := blk_free J.a 3
      have l4 := blk_lt J.a
      have l5 := J.lt
      simp only [List.getElem?_toArray, List.getElem?_cons_succ, List.getElem?_cons_zero] at a0 a1 a2 a3
      have HJ := Lib.hid J
      clear J
      go_wp2_with fail
      refine (K2.out _).mono ?_
      rintro e w' ⟨rfl, rfl⟩
      go_wp2
      go_roundg (3 - 3)
      case measure => omega
      case rel => exact ⟨3, by omega, rfl, by first | rfl | go_num, (HJ.out.set 2 _).as (by rfl)⟩
    · replace J := J.as (L' := #[.int .i64 m0, .int .i64 m1, .int .i64 m2, .int .i64 0]) (by rfl)
      have a0 := blk_cell J.a 0
      have b0 := blk_free J.a 0
      have a1 := blk_cell J.a 1
      have b1 := blk_free J.a 1
      have a2 := blk_cell J.a 2
      have b2 := blk_free J.a 2
      have a3 := blk_cell J.a 3
      have b3 := blk_free J.a 3
      have l4 := blk_lt J.a
      have l5 := J.lt
      simp only [List.getElem?_toArray, List.getElem?_cons_succ, List.getElem?_cons_zero] at a0 a1 a2 a3
      have JM := J.mi
      have c0 := blk_cell JM.r 0
      have c1 := blk_cell JM.r 1
      have c2 := blk_cell JM.r 2
      have n0 := blk_cell JM.n 0
      have n1 := blk_cell JM.n 1
      have n2 := blk_cell JM.n 2
      have n3 := blk_cell JM.n 3
      have n4 := blk_cell JM.n 4
      have n5 := blk_cell JM.n 5
      have n6 := blk_cell JM.n 6
      have s0 := blk_cell JM.s 0
      have t0 := blk_free JM.s 0
      have s1 := blk_cell JM.s 1
      have t1 := blk_free JM.s 1
      have s2 := blk_cell JM.s 2
      have t2 := blk_free JM.s 2
      have s3 := blk_cell JM.s 3
      have t3 := blk_free JM.s 3
      have s4 := blk_cell JM.s 4
      have t4 := blk_free JM.s 4
      have s5 := blk_cell JM.s 5
      have t5 := blk_free JM.s 5
      have s6 := blk_cell JM.s 6
      have t6 := blk_free JM.s 6
      have s7 := blk_cell JM.s 7
      have t7 := blk_free JM.s 7
      have d0 := blk_cell JM.f 0
      have e0 := blk_free JM.f 0
      have d1 := blk_cell JM.f 1
      have e1 := blk_free JM.f 1
      have d2 := blk_cell JM.f 2
      have e2 := blk_free JM.f 2
      have l0 := blk_lt JM.r
      have l1 := blk_lt JM.n
      have l2 := blk_lt JM.s
      have l3 := blk_lt JM.f
      simp only [List.getElem?_toArray, List.getElem?_cons_succ, List.getElem?_cons_zero] at c0 c1 c2 n0 n1 n2 n3 n4 n5 n6 s0 s1 s2 s3 s4 s5 s6 s7 d0 d1 d2
      have HJN := Lib.hid JM
      clear JM
      have HJ := Lib.hid J
      clear J HJN
      go_wp2_with fail
      refine (HF.out _ (HJ.out.tab hTT.out.1 hTT.out.2.1 hTT.out.2.2)).mono ?_
      rintro e w5 ⟨rfl, g5⟩
      have J5 := HJ.out.gb (gb_trans g5 (World.grownBy_alloc w5 (.cells #[.int .i64 v0, .int .i64 v1, .int .i64 v2, .int .i64 v3, .int .i64 v4, .int .i64 v5, .int .i64 v6, .int .i64 v7] 29) none))
      have hz5 := blk_lt (HJ.out.gb g5).mi.f
      have A5 : (w5.alloc (.cells #[.int .i64 v0, .int .i64 v1, .int .i64 v2, .int .i64 v3, .int .i64 v4, .int .i64 v5, .int .i64 v6, .int .i64 v7] 29)).heap[w5.heap.size]? = some (.cells #[.int .i64 v0, .int .i64 v1, .int .i64 v2, .int .i64 v3, .int .i64 v4, .int .i64 v5, .int .i64 v6, .int .i64 v7] 29 (0, 0)) := blk_at
      clear g5 HJ
      clear c0 c1 c2 n0 n1 n2 n3 n4 n5 n6 s0 t0 s1 t1 s2 t2 s3 t3 s4 t4 s5 t5 s6 t6 s7 t7 d0 d1 d2 e0 e1 e2 l0 l1 l2 l3 a0 a1 a2 a3 b0 b1 b2 b3 l4 l5
      go_upto_region 19 with fail
      obtain ⟨vb, hvb⟩ : ∃ k, w5.heap.size = k := ⟨_, rfl⟩
      rw [hvb] at A5 hz5 ⊢
      generalize w5.alloc (.cells #[.int .i64 v0, .int .i64 v1, .int .i64 v2, .int .i64 v3, .int .i64 v4, .int .i64 v5, .int .i64 v6, .int .i64 v7] 29) = w6 at A5 J5 ⊢
      clear hvb
      have g0 : ¬ vb = W.heap.size + 1 + 1 := by omega
      have g1 : ¬ W.heap.size + 1 + 1 = vb := by omega
      have g2 : ¬ vb = W.heap.size + 1 + 1 + 1 := by omega
      have g3 : ¬ W.heap.size + 1 + 1 + 1 = vb := by omega
      have JM := J5.mi
      have c0 := blk_cell JM.r 0
      have c1 := blk_cell JM.r 1
      have c2 := blk_cell JM.r 2
      have n0 := blk_cell JM.n 0
      have n1 := blk_cell JM.n 1
      have n2 := blk_cell JM.n 2
      have n3 := blk_cell JM.n 3
      have n4 := blk_cell JM.n 4
      have n5 := blk_cell JM.n 5
      have n6 := blk_cell JM.n 6
      have s0 := blk_cell JM.s 0
      have t0 := blk_free JM.s 0
      have s1 := blk_cell JM.s 1
      have t1 := blk_free JM.s 1
      have s2 := blk_cell JM.s 2
      have t2 := blk_free JM.s 2
      have s3 := blk_cell JM.s 3
      have t3 := blk_free JM.s 3
      have s4 := blk_cell JM.s 4
      have t4 := blk_free JM.s 4
      have s5 := blk_cell JM.s 5
      have t5 := blk_free JM.s 5
      have s6 := blk_cell JM.s 6
      have t6 := blk_free JM.s 6
      have s7 := blk_cell JM.s 7
      have t7 := blk_free JM.s 7
      have d0 := blk_cell JM.f 0
      have e0 := blk_free JM.f 0
      have d1 := blk_cell JM.f 1
      have e1 := blk_free JM.f 1
      have d2 := blk_cell JM.f 2
      have e2 := blk_free JM.f 2
      have l0 := blk_lt JM.r
      have l1 := blk_lt JM.n
      have l2 := blk_lt JM.s
      have l3 := blk_lt JM.f
      simp only [List.getElem?_toArray, List.getElem?_cons_succ, List.getElem?_cons_zero] at c0 c1 c2 n0 n1 n2 n3 n4 n5 n6 s0 s1 s2 s3 s4 s5 s6 s7 d0 d1 d2
      have HJM := Lib.hid JM
      clear JM
      have a0 := blk_cell A5 0
      have a1 := blk_cell A5 1
      have a2 := blk_cell A5 2
      have a3 := blk_cell A5 3
      have a4 := blk_cell A5 4
      have a5 := blk_cell A5 5
      have a6 := blk_cell A5 6
      have a7 := blk_cell A5 7
      have l9 := blk_lt A5
      simp only [List.getElem?_toArray, List.getElem?_cons_succ, List.getElem?_cons_zero] at a0 a1 a2 a3 a4 a5 a6 a7
      have HJ5 := Lib.hid J5
      clear J5 A5
      go_upto_region 21 with fail
      try go_region
      go_wp2
      refine bodyPost_ret (v := .tuple #[.agg #[.int .i64 v0, .int .i64 v1, .int .i64 v2, .int .i64 v3, .int .i64 v4, .int .i64 v5, .int .i64 v6, .int .i64 v7], .agg #[.int .i64 0, .int .i64 0, .int .i64 0]]) (by simp only [results, Tryd.results25]; go_simp) rfl ⟨rfl, ?_, ?_⟩
      · repeat' first | with_reducible exact HJ5.out.sl | with_reducible refine SL.st ?_ (by omega) (by omega) | with_reducible refine SL.grown ?_ (gb_drew _ _)
      · repeat' first | with_reducible exact HJ5.out.mi.t | with_reducible refine tn_own1 ?_ (by omega) | with_reducible refine Tn.dr ?_

end Go.Proofs.YtikjfmpdfeaooaaDoor.Dh
